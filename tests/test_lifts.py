"""[2], [17] and [18]: lifts, and the fewest of them that lead to a goal."""

import itertools
import random
import unittest

from leadboard.lifts import after_lifts, is_lift_plan, lift_plan, lifted, must_lift
from leadboard.orders import settled_order
from tests.rankings import HUGE, O, S, drawn_rankings, kinds_of_rankings, left_order, lift_table
from tests.rankings import mixed_kinds_of_rankings, near, really_lifted, settled_orders

ASCENDING = list(range(28))
NO_LISTS = [(1, 3), (), "13", "", b"13", None, {}, {1: 3}, {1, 3}, True, False, 0, 3, 1.5, range(2), object(), len]
NO_ENTRIES = [-1, -4, 4, 28, HUGE, -HUGE, True, False, None, "1", "", 1.0, 0.0, [1], [], (1,), (), {}, b"1", object()]


def settled_rankings(seed, count, least, most):
    for lead, scores, order in drawn_rankings(seed, count, least, most):
        yield lead, scores, left_order(lead, scores, order)


class Lifted(unittest.TestCase):

    def test_really_raised_and_given_back(self):
        for many in (1, 2, 3, 4):
            for lead, scores in kinds_of_rankings(many):
                for order in settled_orders(lead, scores):
                    for entry in range(many):
                        expected = really_lifted(lead, scores, order, entry)
                        self.assertEqual(lifted(lead, scores, order, entry), expected, (lead, scores, order, entry))

    def test_drawn_rankings(self):
        for lead, scores, order in settled_rankings(61, 200, 1, 12):
            for entry in order:
                self.assertEqual(lifted(lead, scores, order, entry), really_lifted(lead, scores, order, entry))

    def test_above_all_close_ones_and_all_other_close_pairs_as_before(self):
        for lead, scores, order in settled_rankings(62, 200, 1, 10):
            for entry in order:
                left = lifted(lead, scores, order, entry)
                for upper, lower in itertools.combinations(order, 2):
                    if not near(lead, scores, upper, lower):
                        continue
                    expected = upper == entry or lower != entry
                    self.assertIs(left.index(upper) < left.index(lower), expected)

    def test_one_that_is_close_to_no_other_one_changes_nothing(self):
        for order in settled_orders(2, S):
            for entry in order:
                self.assertEqual(lifted(2, S, order, entry), order)
        self.assertEqual(lifted(3, [4, 7, 9], [1, 2, 0], 0), [1, 2, 0])
        self.assertEqual(lifted(1, [7], [0], 0), [0])

    def test_edges(self):
        self.assertEqual(lifted(3, S, O, 0), [0, 1, 2, 3])
        self.assertEqual(lifted(3, S, O, 1), [1, 2, 3, 0])
        self.assertEqual(lifted(3, S, O, 2), [2, 3, 0, 1])
        self.assertEqual(lifted(3, S, O, 3), [3, 0, 1, 2])
        self.assertEqual(lifted(3, S, [3, 2, 1, 0], 0), [3, 2, 0, 1])
        self.assertEqual(lifted(9, S, [3, 2, 1, 0], 0), [0, 3, 2, 1])
        self.assertEqual(lifted(1, [7, 7], [0, 1], 1), [1, 0])
        self.assertEqual(lifted(HUGE, [0, HUGE], [1, 0], 0), [1, 0])
        self.assertEqual(lifted(HUGE, [0, HUGE - 1], [1, 0], 0), [0, 1])

    def test_28_entries(self):
        self.assertEqual(lifted(2, ASCENDING, ASCENDING, 27), [27] + ASCENDING[:27])
        self.assertEqual(lifted(2, ASCENDING, ASCENDING, 13), ASCENDING[13:] + ASCENDING[:13])
        for entry in ASCENDING:
            self.assertEqual(lifted(2, ASCENDING, ASCENDING, entry), really_lifted(2, ASCENDING, ASCENDING, entry))
            self.assertEqual(lifted(1, ASCENDING, ASCENDING[::-1], entry), ASCENDING[::-1])


class AfterLifts(unittest.TestCase):

    def test_one_after_the_other(self):
        draw = random.Random(63)
        for lead, scores, order in settled_rankings(64, 150, 1, 9):
            lifts = [draw.choice(order) for _ in range(draw.randint(0, 12))]
            left = order
            for at, entry in enumerate(lifts):
                self.assertEqual(after_lifts(lead, scores, order, lifts[:at]), left)
                left = really_lifted(lead, scores, left, entry)
            self.assertEqual(after_lifts(lead, scores, order, lifts), left)

    def test_no_lifts(self):
        for lead, scores, order in settled_rankings(65, 50, 1, 28):
            left = after_lifts(lead, scores, order, [])
            self.assertEqual(left, order)
            self.assertIsNot(left, order)

    def test_one_lift(self):
        for lead, scores, order in settled_rankings(66, 100, 1, 12):
            for entry in order:
                self.assertEqual(after_lifts(lead, scores, order, [entry]), lifted(lead, scores, order, entry))

    def test_two_parts_do_what_the_whole_does(self):
        draw = random.Random(67)
        for lead, scores, order in settled_rankings(68, 60, 1, 12):
            lifts = [draw.choice(order) for _ in range(20)]
            whole = after_lifts(lead, scores, order, lifts)
            for at in range(21):
                part = after_lifts(lead, scores, order, lifts[:at])
                self.assertEqual(after_lifts(lead, scores, part, lifts[at:]), whole)

    def test_100_lifts(self):
        draw = random.Random(69)
        for lead, scores, order in settled_rankings(70, 12, 1, 8):
            lifts = [draw.choice(order) for _ in range(100)]
            left = order
            for entry in lifts:
                left = really_lifted(lead, scores, left, entry)
            self.assertEqual(after_lifts(lead, scores, order, lifts), left)
        self.assertEqual(after_lifts(9, S, O, [2, 3] * 50), [3, 2, 0, 1])
        self.assertEqual(after_lifts(1, [7], [0], [0] * 100), [0])

    def test_28_entries(self):
        self.assertEqual(after_lifts(28, ASCENDING, ASCENDING, ASCENDING), ASCENDING[::-1])
        self.assertEqual(after_lifts(2, ASCENDING, ASCENDING, ASCENDING), ASCENDING[::-1])
        self.assertEqual(after_lifts(2, ASCENDING, ASCENDING[::-1], ASCENDING[::-1]), ASCENDING)


def shortest_ways(table, start):
    """For each order that can be reached the list of all shortest lists of lifts, each list ascending."""
    ways, ends = {start: [()]}, [start]
    while ends:
        longer = {}
        for order in ends:
            for entry, left in enumerate(table[order]):
                if left not in ways:
                    longer.setdefault(left, []).extend(way + (entry,) for way in ways[order])
        ways.update({order: sorted(found) for order, found in longer.items()})
        ends = list(longer)
    return ways


def reached_without(table, start, entry):
    """All orders that can be reached without lifts of an entry."""
    reached, ends = {start}, [start]
    while ends:
        order = ends.pop()
        for other, left in enumerate(table[order]):
            if other != entry and left not in reached:
                reached.add(left)
                ends.append(left)
    return reached


class Plans(unittest.TestCase):

    def check_start(self, lead, scores, table, start):
        ways = shortest_ways(table, start)
        # Lifts lead from each settled order to each other one.
        self.assertEqual(set(ways), set(table))
        without = [reached_without(table, start, entry) for entry in range(len(scores))]
        for goal, found in ways.items():
            case = (lead, scores, start, goal)
            arguments = lead, scores, list(start), list(goal)
            must = must_lift(*arguments)
            self.assertEqual(must, [entry for entry, others in enumerate(without) if goal not in others], case)
            self.assertEqual({tuple(sorted(way)) for way in found}, {tuple(must)}, case)
            self.assertEqual(lift_plan(*arguments), list(found[0]), case)
            for way in itertools.permutations(must):
                self.assertIs(is_lift_plan(*arguments, list(way)), way in found, case)

    def test_all_pairs_of_settled_orders(self):
        for many in (1, 2, 3, 4):
            for lead, scores in kinds_of_rankings(many):
                table = lift_table(lead, scores)
                for start in table:
                    self.check_start(lead, scores, table, start)

    def test_all_pairs_of_settled_orders_of_five_entries(self):
        for lead, scores in mixed_kinds_of_rankings(5, 71):
            table = lift_table(lead, scores)
            for start in table:
                self.check_start(lead, scores, table, start)

    def test_all_short_lists(self):
        for lead, scores in ((3, [4, 6, 8]), (9, [4, 6, 8]), (3, [8, 4, 6]), (3, [4, 6, 9]), (2, [1, 1, 2])):
            table = lift_table(lead, scores)
            for start, goal in itertools.product(table, repeat=2):
                found = shortest_ways(table, start)[goal]
                for length in range(5):
                    for way in itertools.product(range(-1, 4), repeat=length):
                        told = is_lift_plan(lead, scores, list(start), list(goal), list(way))
                        self.assertIs(told, way in found, (lead, scores, start, goal, way))

    def test_nothing_to_lift(self):
        for lead, scores in kinds_of_rankings(3):
            for order in settled_orders(lead, scores):
                self.assertEqual(must_lift(lead, scores, order, list(order)), [])
                self.assertEqual(lift_plan(lead, scores, order, list(order)), [])
                self.assertIs(is_lift_plan(lead, scores, order, list(order), []), True)
                self.assertIs(is_lift_plan(lead, scores, order, list(order), [order[0]]), False)

    def test_plans_of_28_entries(self):
        draw = random.Random(72)
        for lead, scores, order in settled_rankings(73, 25, 28, 28):
            goal = settled_order(lead, scores, draw.sample(order, 28))
            must, plan = must_lift(lead, scores, order, goal), lift_plan(lead, scores, order, goal)
            self.assertEqual(sorted(plan), must)
            self.assertEqual(after_lifts(lead, scores, order, plan), goal)
            self.assertIs(is_lift_plan(lead, scores, order, goal, plan), True)
            for entry in must:
                # With one lift less it does not lead there, with one more there are fewer that do.
                self.assertIs(is_lift_plan(lead, scores, order, goal, [one for one in plan if one != entry]), False)
                self.assertIs(is_lift_plan(lead, scores, order, goal, [entry] + plan), False)

    def test_28_entries_upside_down(self):
        backwards = ASCENDING[::-1]
        self.assertEqual(must_lift(28, ASCENDING, ASCENDING, backwards), ASCENDING[1:])
        self.assertEqual(lift_plan(28, ASCENDING, ASCENDING, backwards), ASCENDING[1:])
        self.assertEqual(lift_plan(28, ASCENDING, backwards, ASCENDING), ASCENDING[:27][::-1])
        self.assertEqual(must_lift(2, ASCENDING, ASCENDING, backwards), ASCENDING[1:])
        self.assertIs(is_lift_plan(28, ASCENDING, ASCENDING, backwards, ASCENDING[1:]), True)
        self.assertIs(is_lift_plan(28, ASCENDING, ASCENDING, backwards, ASCENDING), False)
        self.assertIs(is_lift_plan(28, ASCENDING, ASCENDING, backwards, backwards[:27]), False)

    def test_the_least_plan_keeps_close_ones_in_their_turn(self):
        self.assertEqual(lift_plan(3, S, O, [3, 1, 2, 0]), [1, 3])
        self.assertEqual(lift_plan(9, S, O, [1, 3, 0, 2]), [3, 1])
        self.assertEqual(lift_plan(3, [0, 2, 100, 102], [2, 3, 0, 1], [3, 2, 1, 0]), [1, 3])
        self.assertEqual(lift_plan(3, [102, 100, 2, 0], [0, 1, 2, 3], [1, 0, 3, 2]), [1, 3])

    def test_a_chain_in_the_goal_leads_to_what_must_be_lifted(self):
        self.assertEqual(must_lift(9, S, [0, 1, 2, 3], [0, 1, 3, 2]), [0, 1, 3])
        self.assertEqual(must_lift(9, S, [0, 1, 2, 3], [3, 0, 1, 2]), [3])
        self.assertEqual(must_lift(3, S, [3, 2, 1, 0], [3, 2, 0, 1]), [0])
        self.assertEqual(must_lift(3, S, [3, 2, 1, 0], [2, 3, 0, 1]), [0, 2])
        self.assertEqual(must_lift(3, S, [3, 2, 1, 0], [0, 1, 2, 3]), [0, 1, 2])

    def test_plans_of_any_other_value(self):
        goal = [3, 1, 2, 0]
        for value in NO_LISTS + [[item, 3] for item in NO_ENTRIES] + [[1, item] for item in NO_ENTRIES]:
            self.assertIs(is_lift_plan(3, S, O, goal, value), False, value)
        for value in NO_LISTS + [[item] for item in NO_ENTRIES] + [[1] * 101, [1] * 400, [[]], [[1, 3]]]:
            self.assertIs(is_lift_plan(3, S, O, O, value), False, value)
            self.assertIs(is_lift_plan(3, S, O, goal, value), False, value)
            self.assertIs(is_lift_plan(1, [7], [0], [0], value), False, value)
        self.assertIs(is_lift_plan(3, S, O, [1, 2, 3, 0], [1]), True)
        self.assertIs(is_lift_plan(3, S, O, [1, 2, 3, 0], [True]), False)
        self.assertIs(is_lift_plan(9, S, [1, 0, 2, 3], O, [False]), False)
        self.assertIs(is_lift_plan(9, S, [1, 0, 2, 3], O, [0]), True)

    def test_plans_that_lead_there_but_are_longer(self):
        goal = [3, 1, 2, 0]
        self.assertIs(is_lift_plan(3, S, O, goal, [1, 3]), True)
        self.assertIs(is_lift_plan(3, S, O, goal, [3, 1]), True)
        for value in ([1, 3, 3], [1, 1, 3], [3, 1, 3, 1], [0, 1, 3], [2, 1, 3]):
            self.assertEqual(after_lifts(3, S, O, value), goal)
            self.assertIs(is_lift_plan(3, S, O, goal, value), False)


if __name__ == "__main__":
    unittest.main()
