"""[6] to [11]: scores, orders, wrong places and the orders that are left."""

import itertools
import random
import unittest

from leadboard.errors import InvalidScoresError
from leadboard.orders import is_order, is_scores, is_settled, settled_order, walk_orders, with_entry, with_score
from leadboard.orders import without_entry, wrong_places
from tests.rankings import HUGE, O, R, S, all_wrong, chain_leads, drawn_rankings, left_order, small_rankings, walked

NO_LISTS = [(4, 6, 8, 10), (0, 1, 2, 3), (0,), (), "4 6", "0123", "", b"0123", None, {}, {0: 1}, {0, 1, 2, 3},
            {0: 0, 1: 1, 2: 2, 3: 3}, True, False, 0, 4, 1.5, range(4), object(), len]


class IsScores(unittest.TestCase):

    def test_lists_of_integers(self):
        for value in ([0], [4], [-4], [4, 6, 8, 10], [5, 5, 5], [0, -1, 1], [3, 2, 1], [0] * 28, list(range(28))):
            self.assertIs(is_scores(value), True, value)

    def test_integers_of_31_digits(self):
        most = 10 ** 31 - 1
        self.assertEqual(len(str(most)), 31)
        for value in ([most], [-most], [most, -most, 0], [HUGE] * 28, [-HUGE] * 28):
            self.assertIs(is_scores(value), True, value)

    def test_one_to_28_items(self):
        for many in range(60):
            self.assertIs(is_scores([7] * many), 1 <= many <= 28, many)
        self.assertIs(is_scores([1] * 400), False)

    def test_other_values(self):
        for value in NO_LISTS:
            self.assertIs(is_scores(value), False, value)

    def test_other_items(self):
        for item in (True, False, None, "4", "", 1.0, 2.5, [4], [], (4,), (), {}, {4: 4}, b"4", object()):
            for value in ([item], [item, 4], [4, item], [4, item, 8], [4] * 27 + [item]):
                self.assertIs(is_scores(value), False, value)

    def test_nested_lists(self):
        for value in ([[]], [[4, 6]], [[4], [6]], [[[4]]], [4, [6, [8]]]):
            self.assertIs(is_scores(value), False, value)


class IsOrder(unittest.TestCase):

    def test_all_orders_of_small_scores(self):
        for many in range(1, 5):
            scores = [9] * many
            for length in range(many + 2):
                for value in itertools.product(range(-1, many + 1), repeat=length):
                    expected = sorted(value) == list(range(many))
                    self.assertIs(is_order(scores, list(value)), expected, value)

    def test_28_entries(self):
        scores = list(range(28))
        self.assertIs(is_order(scores, list(range(28))), True)
        self.assertIs(is_order(scores, list(range(27, -1, -1))), True)
        self.assertIs(is_order(scores, list(range(27)) + [26]), False)
        self.assertIs(is_order(scores, list(range(27)) + [28]), False)
        self.assertIs(is_order(scores, list(range(27))), False)
        self.assertIs(is_order(scores, list(range(29))), False)

    def test_named_edges(self):
        for value in ([0, 1, 2, 2], [0, 1, 2], [0, 1, 2, 3, 3], [0, 1, 2, 3, 4], [0, 1, 2, 4], [-1, 0, 1, 2],
                      [-1, 1, 2, 3], [0, 1, 2, -1], [4, 3, 2, 1], [], [0, 1, 2, HUGE], [0, 1, 2, -HUGE], [0] * 400):
            self.assertIs(is_order(S, value), False, value)

    def test_entries_are_not_scores(self):
        self.assertIs(is_order(S, S), False)
        self.assertIs(is_order([0, 5, 5], [2, 1, 0]), True)

    def test_other_values(self):
        for value in NO_LISTS:
            self.assertIs(is_order(S, value), False, value)
            self.assertIs(is_order([4], value), False, value)

    def test_other_items(self):
        for item in (False, True, None, "0", 0.0, 1.0, [0], [], (0,), {}, b"0", object()):
            self.assertIs(is_order([4], [item]), False, item)
            for place in range(4):
                value = [0, 1, 2, 3]
                value[place] = item
                self.assertIs(is_order(S, value), False, value)
        self.assertIs(is_order([4, 6], [False, True]), False)
        self.assertIs(is_order(S, [[0, 1, 2, 3]]), False)
        self.assertIs(is_order(S, [[0], [1], [2], [3]]), False)

    def test_no_scores(self):
        for scores in NO_LISTS + [[], [1] * 29, [True], [4, False], ["4"], [None], [[4]], [4.0]]:
            for value in ([0], [], [0, 1, 2, 3], None, "x"):
                with self.assertRaises(InvalidScoresError):
                    is_order(scores, value)


class WrongPlaces(unittest.TestCase):

    def check(self, lead, scores, order, expected):
        self.assertEqual(wrong_places(lead, scores, order), expected)
        self.assertIs(is_settled(lead, scores, order), expected == [])

    def test_lead_one(self):
        self.check(1, S, O, [0, 1, 2])
        self.check(1, S, [3, 2, 1, 0], [])
        self.check(1, [5, 6], [0, 1], [0])
        self.check(1, [5, 5], [0, 1], [])
        self.check(1, [6, 5], [0, 1], [])

    def test_exactly_the_lead_and_one_less(self):
        for lead in (1, 2, 3, 7, 100, HUGE):
            for low in (-HUGE, -1, 0, 4, HUGE):
                self.check(lead, [low, low + lead], [0, 1], [0])
                self.check(lead, [low, low + lead - 1], [0, 1], [])
                self.check(lead, [low, low + lead + 1], [0, 1], [0])
                self.check(lead, [low + lead, low], [0, 1], [])
                self.check(lead, [low + lead, low], [1, 0], [0])

    def test_equal_scores(self):
        for lead in (1, 2, HUGE):
            for order in itertools.permutations(range(4)):
                self.check(lead, [-3, -3, -3, -3], list(order), [])

    def test_single_entry(self):
        for lead in (1, 2, HUGE):
            for score in (0, -HUGE, HUGE):
                self.check(lead, [score], [0], [])

    def test_only_neighbours_count(self):
        self.check(3, [4, 6, 8], [0, 1, 2], [])
        self.check(3, [4, 6, 8], [0, 2, 1], [0])
        self.check(3, [4, 6, 8], [1, 0, 2], [1])

    def test_ascending_and_all(self):
        self.check(1, list(range(28)), list(range(28)), list(range(27)))
        self.check(3, [0, 5, 1, 6, 2, 7], [0, 1, 2, 3, 4, 5], [0, 2, 4])

    def test_small_and_drawn_rankings(self):
        for lead, scores, order in itertools.chain(small_rankings(), drawn_rankings(1, 500, 1, 12)):
            self.check(lead, scores, order, all_wrong(lead, scores, order))

    def test_a_settled_order_upside_down(self):
        scores = list(range(0, 56, 2))
        self.check(3, scores, list(range(28)), [])
        self.check(2, scores, list(range(28)), list(range(27)))


class SettledOrder(unittest.TestCase):

    def test_whatever_sequence(self):
        draw = random.Random(2)
        for lead, scores, order in drawn_rankings(3, 300):
            left = settled_order(lead, scores, order)
            lengths = set()
            for choose in [min, max] + [draw.choice] * 8:
                walk, orders, pairs = walked(lead, scores, order, choose)
                self.assertEqual(left, orders[-1], (lead, scores, order))
                lengths.add(len(walk))
            self.assertEqual(len(lengths), 1)

    def test_small_rankings(self):
        for lead, scores, order in small_rankings():
            self.assertEqual(settled_order(lead, scores, order), left_order(lead, scores, order))

    def test_settled_again_it_stays(self):
        for lead, scores, order in drawn_rankings(4, 300, 1, 28):
            left = settled_order(lead, scores, order)
            self.assertIs(is_settled(lead, scores, left), True)
            self.assertEqual(settled_order(lead, scores, left), left)

    def test_28_entries_upside_down(self):
        ascending, descending = list(range(28)), list(range(27, -1, -1))
        self.assertEqual(settled_order(1, ascending, ascending), descending)
        self.assertEqual(settled_order(2, ascending, ascending), ascending)
        self.assertEqual(settled_order(1, descending, descending), ascending)
        steps = [step * HUGE // 4 for step in range(28)]
        self.assertEqual(settled_order(HUGE // 4, steps, ascending), descending)
        self.assertEqual(settled_order(HUGE // 4 + 1, steps, ascending), ascending)

    def test_lead_one_sorts_and_leaves_equal_scores(self):
        for _, scores, order in drawn_rankings(5, 300, 1, 28):
            self.assertEqual(settled_order(1, scores, order), sorted(order, key=lambda entry: -scores[entry]))
        self.assertEqual(settled_order(1, [5, 5, 9, 5, 9], [3, 0, 4, 1, 2]), [4, 2, 3, 0, 1])

    def test_lead_above_all_differences(self):
        for _, scores, order in drawn_rankings(6, 300, 1, 28):
            lead = max(scores) - min(scores) + 1
            self.assertEqual(settled_order(lead, scores, order), order)
            self.assertEqual(settled_order(HUGE, scores, order), order)

    def test_close_pairs_keep_their_order(self):
        for lead, scores, order in drawn_rankings(7, 200, 2, 12):
            left = settled_order(lead, scores, order)
            for upper, lower in itertools.combinations(order, 2):
                if abs(scores[upper] - scores[lower]) < lead:
                    self.assertLess(left.index(upper), left.index(lower))

    def test_chains_hold(self):
        rankings = itertools.chain(small_rankings(), drawn_rankings(8, 400, 2, 8))
        for lead, scores, order in rankings:
            left = settled_order(lead, scores, order)
            for one, other in itertools.permutations(order, 2):
                down, up = chain_leads(lead, scores, order, one, other), chain_leads(lead, scores, order, other, one)
                expected = down or (not up and scores[one] > scores[other])
                self.assertIs(left.index(one) < left.index(other), expected, (lead, scores, order, one, other))

    def test_how_far_behind_an_upper_entry_may_be(self):
        for lead, scores, order in drawn_rankings(9, 200, 2, 12):
            left = settled_order(lead, scores, order)
            for upper, lower in itertools.combinations(range(len(left)), 2):
                behind = scores[left[lower]] - scores[left[upper]]
                self.assertLessEqual(behind, (lower - upper) * (lead - 1))

    def test_single_entry(self):
        self.assertEqual(settled_order(1, [7], [0]), [0])

    def test_a_held_entry_goes_on_when_the_holder_is_passed(self):
        self.assertEqual(settled_order(3, [4, 9, 8, 10], [0, 2, 1, 3]), [2, 1, 3, 0])
        self.assertEqual(settled_order(3, [1, 2, 4], [0, 1, 2]), [0, 1, 2])
        self.assertEqual(settled_order(3, [1, 2, 5], [0, 1, 2]), [2, 0, 1])


class WalkOrders(unittest.TestCase):

    def test_least_wrong_place_each_time(self):
        for lead, scores, order in itertools.chain(small_rankings(), drawn_rankings(10, 300, 1, 9)):
            expected = walked(lead, scores, order, min)[1]
            self.assertEqual(list(walk_orders(lead, scores, order)), expected)

    def test_settled_order_gives_one_list(self):
        self.assertEqual(list(walk_orders(3, S, O)), [O])
        self.assertEqual(list(walk_orders(1, [7], [0])), [[0]])
        self.assertEqual(list(walk_orders(1, [7, 7, 7], [2, 0, 1])), [[2, 0, 1]])

    def test_the_least_and_not_another_wrong_place(self):
        expected = [[0, 1, 2, 3], [1, 0, 2, 3], [1, 0, 3, 2], [1, 3, 0, 2]]
        self.assertEqual(list(walk_orders(1, [1, 2, 1, 2], O)), expected)

    def test_28_entries_upside_down(self):
        ascending = list(range(28))
        orders = list(walk_orders(1, ascending, ascending))
        self.assertEqual(len(orders), 379)
        self.assertEqual(orders[0], ascending)
        self.assertEqual(orders[1][:3], [1, 0, 2])
        self.assertEqual(orders[-1], list(range(27, -1, -1)))

    def test_yielded_lists_are_new(self):
        order = [0, 1, 2, 3]
        orders = list(walk_orders(2, S, order))
        self.assertEqual(len(orders), 7)
        self.assertEqual(len({id(one) for one in orders + [order]}), 8)
        for one in orders:
            self.assertIs(type(one), list)

    def test_yielded_lists_may_be_changed(self):
        order = [0, 1, 2, 3]
        seen = []
        for one in walk_orders(2, S, order):
            seen.append(list(one))
            one.reverse()
            one.clear()
        self.assertEqual(seen, walked(2, S, O, min)[1])
        self.assertEqual(order, O)
        seen = []
        for one in walk_orders(3, R, order):
            seen.append(list(one))
            one[0], one[-1] = one[-1], one[0]
        self.assertEqual(seen, walked(3, R, O, min)[1])
        self.assertEqual(order, O)

    def test_results_come_one_by_one(self):
        self.assertEqual(next(walk_orders(3, R, O)), O)
        walk = walk_orders(3, R, O)
        self.assertEqual([next(walk), next(walk), next(walk), next(walk)], walked(3, R, O, min)[1])
        self.assertEqual(list(walk), [])

    def test_walks_side_by_side(self):
        expected = walked(2, S, O, min)[1]
        first, second = iter(walk_orders(2, S, O)), iter(walk_orders(2, S, O))
        self.assertEqual([next(first), next(first), next(first)], expected[:3])
        self.assertEqual([next(second), next(second)], expected[:2])
        self.assertEqual(next(first), expected[3])
        self.assertEqual(list(second), expected[2:])
        self.assertEqual(list(first), expected[4:])

    def test_a_walk_that_is_not_finished_changes_nothing(self):
        scores, order = [4, 9, 8, 10], [0, 1, 2, 3]
        walk = iter(walk_orders(3, scores, order))
        next(walk)
        next(walk).clear()
        self.assertEqual(list(walk_orders(3, scores, order)), walked(3, R, O, min)[1])
        self.assertEqual((scores, order), (R, O))
        self.assertEqual(settled_order(3, scores, order), [1, 2, 3, 0])


def replaced(scores, entry, score):
    return [score if other == entry else worth for other, worth in enumerate(scores)]


class WithScore(unittest.TestCase):

    def near_scores(self, lead, scores, entry):
        worth = scores[entry]
        return sorted({worth, worth - 1, worth + 1, worth - lead, worth + lead, max(scores) + lead, min(scores) - lead,
                       max(scores) + lead - 1, min(scores) - lead + 1, HUGE, -HUGE})

    def test_drawn_rankings_settled_or_not(self):
        for lead, scores, order in drawn_rankings(11, 150):
            for start in (order, left_order(lead, scores, order)):
                for entry in range(len(scores)):
                    for score in self.near_scores(lead, scores, entry):
                        expected = left_order(lead, replaced(scores, entry, score), start)
                        self.assertEqual(with_score(lead, scores, start, entry, score), expected)

    def test_above_all_and_below_all(self):
        self.assertEqual(with_score(3, S, O, 2, 99), [2, 3, 0, 1])
        self.assertEqual(with_score(3, S, O, 3, 13), [3, 0, 1, 2])
        self.assertEqual(with_score(3, S, O, 0, -99), [1, 2, 3, 0])
        self.assertEqual(with_score(1, S, [3, 2, 1, 0], 3, -HUGE), [2, 1, 0, 3])
        self.assertEqual(with_score(1, S, [3, 2, 1, 0], 0, HUGE), [0, 3, 2, 1])

    def test_near(self):
        self.assertEqual(with_score(3, S, O, 1, 6), [0, 1, 2, 3])
        self.assertEqual(with_score(3, S, O, 1, 7), [1, 2, 3, 0])
        self.assertEqual(with_score(3, S, O, 1, 4), [2, 3, 0, 1])
        self.assertEqual(with_score(3, S, O, 3, 10), [0, 1, 2, 3])
        self.assertEqual(with_score(3, S, O, 3, 11), [3, 0, 1, 2])

    def test_settled_only_with_the_new_score(self):
        self.assertEqual(settled_order(3, R, O), [1, 2, 3, 0])
        self.assertEqual(with_score(3, R, O, 1, 6), O)
        self.assertEqual(with_score(3, [4, 9], [0, 1], 1, 5), [0, 1])

    def test_single_entry(self):
        self.assertEqual(with_score(3, [4], [0], 0, -7), [0])

    def test_28_entries(self):
        ascending = list(range(28))
        self.assertEqual(with_score(2, ascending, ascending, 27, 28), [27] + ascending[:27])
        self.assertEqual(with_score(2, ascending, ascending, 0, 0), ascending)


class WithEntry(unittest.TestCase):

    def test_drawn_rankings_settled_or_not(self):
        for lead, scores, order in drawn_rankings(12, 200):
            for start in (order, left_order(lead, scores, order)):
                for score in {min(scores) - 1, min(scores), scores[start[-1]] + lead, scores[start[-1]] + lead - 1,
                              max(scores), max(scores) + lead - 1, max(scores) + lead, HUGE, -HUGE}:
                    expected = left_order(lead, scores + [score], start + [len(scores)])
                    self.assertEqual(with_entry(lead, scores, start, score), expected)

    def test_above_below_and_near(self):
        self.assertEqual(with_entry(3, S, O, 13), [4, 0, 1, 2, 3])
        self.assertEqual(with_entry(3, S, O, 12), [0, 1, 2, 3, 4])
        self.assertEqual(with_entry(3, S, O, -99), [0, 1, 2, 3, 4])
        self.assertEqual(with_entry(3, S, [3, 2, 1, 0], 7), [3, 2, 1, 4, 0])
        self.assertEqual(with_entry(3, S, [3, 2, 1, 0], 6), [3, 2, 1, 0, 4])
        self.assertEqual(with_entry(3, R, O, 20), [4, 1, 2, 3, 0])
        self.assertEqual(with_entry(1, [7], [0], 7), [0, 1])
        self.assertEqual(with_entry(1, [7], [0], 8), [1, 0])

    def test_27_entries(self):
        ascending = list(range(27))
        self.assertEqual(with_entry(2, ascending, ascending, 99), [27] + ascending)
        self.assertEqual(with_entry(2, ascending, ascending, -5), ascending + [27])

    def test_28_entries(self):
        ascending = list(range(28))
        for score in (99, 0, -HUGE):
            with self.assertRaises(InvalidScoresError):
                with_entry(2, ascending, ascending, score)


def gone(scores, order, entry):
    kept = [other for other in range(len(scores)) if other != entry]
    return [scores[other] for other in kept], [kept.index(other) for other in order if other != entry]


class WithoutEntry(unittest.TestCase):

    def test_drawn_rankings_settled_or_not(self):
        for lead, scores, order in drawn_rankings(13, 300, 2):
            for start in (order, left_order(lead, scores, order)):
                for entry in range(len(scores)):
                    others, rest = gone(scores, start, entry)
                    answer = without_entry(lead, scores, start, entry)
                    self.assertIs(type(answer), tuple)
                    self.assertEqual(answer, (others, left_order(lead, others, rest)))

    def test_first_and_last(self):
        self.assertEqual(without_entry(3, S, O, 0), ([6, 8, 10], [0, 1, 2]))
        self.assertEqual(without_entry(3, S, O, 3), ([4, 6, 8], [0, 1, 2]))
        self.assertEqual(without_entry(3, S, [3, 1, 0, 2], 0), ([6, 8, 10], [2, 0, 1]))
        self.assertEqual(without_entry(3, S, [3, 1, 0, 2], 3), ([4, 6, 8], [1, 2, 0]))

    def test_the_numbers_behind_become_less(self):
        self.assertEqual(without_entry(9, S, [2, 0, 3, 1], 1), ([4, 8, 10], [1, 0, 2]))
        self.assertEqual(without_entry(9, S, [2, 0, 3, 1], 2), ([4, 6, 10], [0, 2, 1]))
        self.assertEqual(without_entry(9, [5, 5, 5], [2, 1, 0], 0), ([5, 5], [1, 0]))

    def test_equal_scores_go_by_their_number(self):
        self.assertEqual(without_entry(1, [5, 7, 5], [1, 2, 0], 2), ([5, 7], [1, 0]))
        self.assertEqual(without_entry(1, [5, 7, 5], [1, 2, 0], 0), ([7, 5], [0, 1]))

    def test_two_entries(self):
        self.assertEqual(without_entry(1, [5, 7], [1, 0], 0), ([7], [0]))
        self.assertEqual(without_entry(1, [5, 7], [1, 0], 1), ([5], [0]))

    def test_single_entry(self):
        for score in (5, 0, -HUGE):
            with self.assertRaises(InvalidScoresError):
                without_entry(1, [score], [0], 0)

    def test_28_entries(self):
        ascending = list(range(28))
        self.assertEqual(without_entry(2, ascending, ascending, 27), (ascending[:27], ascending[:27]))
        others = ascending[:13] + ascending[14:]
        self.assertEqual(without_entry(2, ascending, ascending, 13), (others, list(range(13, 27)) + list(range(13))))


if __name__ == "__main__":
    unittest.main()
