"""[10] and [13]: close entries, chains, and what stands above what in the order that is left."""

import itertools
import unittest

from leadboard.chains import chain_between, holders_of, is_above, is_chain, is_close
from leadboard.orders import settled_order
from tests.rankings import HUGE, O, R, S, all_chains, chain_leads, drawn_rankings, kinds_of_rankings, left_order, near
from tests.rankings import settled_orders, small_rankings

ASCENDING = list(range(28))
NO_LISTS = [(0, 1), (0, 1, 2, 3), (), "01", "", b"01", None, {}, {0: 1, 1: 2}, {0, 1}, True, False, 0, 3, 1.5, range(2),
            object(), len, [0, 1].index]


def all_orders(scores):
    return [list(order) for order in itertools.permutations(range(len(scores)))]


def ranked_kinds(*sizes):
    """All orders of a ranking of each kind of these sizes."""
    for many in sizes:
        for lead, scores in kinds_of_rankings(many):
            for order in all_orders(scores):
                yield lead, scores, order


class IsClose(unittest.TestCase):

    def test_all_pairs_of_small_rankings(self):
        for lead, scores, _ in itertools.chain(small_rankings(), drawn_rankings(31, 200, 1, 12)):
            for one, other in itertools.product(range(len(scores)), repeat=2):
                self.assertIs(is_close(lead, scores, one, other), near(lead, scores, one, other))

    def test_itself(self):
        for lead in (1, 2, HUGE):
            for scores in ([0], [-HUGE], [5, 5], [4, 9, 8, 10], [HUGE] * 28):
                for entry in range(len(scores)):
                    self.assertIs(is_close(lead, scores, entry, entry), True)

    def test_exactly_the_lead_and_one_less(self):
        for lead in (1, 2, 3, 7, 100, HUGE):
            for low in (-HUGE, -1, 0, 4, HUGE):
                for gap, expected in ((lead, False), (lead - 1, True), (lead + 1, False), (0, True), (2 * lead, False)):
                    self.assertIs(is_close(lead, [low, low + gap], 0, 1), expected)
                    self.assertIs(is_close(lead, [low, low + gap], 1, 0), expected)
                    self.assertIs(is_close(lead, [low + gap, 99, low], 0, 2), expected)

    def test_28_entries(self):
        for one, other in itertools.product(range(28), repeat=2):
            self.assertIs(is_close(2, ASCENDING, one, other), abs(one - other) < 2)

    def test_scores_of_31_digits(self):
        most = 10 ** 31 - 1
        self.assertIs(is_close(most, [most, 0], 0, 1), False)
        self.assertIs(is_close(most, [most, 1], 0, 1), True)
        self.assertIs(is_close(most, [-most, most], 0, 1), False)


class IsChain(unittest.TestCase):

    def check(self, lead, scores, order, value):
        links = list(zip(value, value[1:]))
        expected = len(value) >= 2 and set(value) <= set(order) and all(
            order.index(upper) < order.index(lower) and near(lead, scores, upper, lower) for upper, lower in links)
        self.assertIs(is_chain(lead, scores, order, value), expected, (lead, scores, order, value))

    def test_all_lists_of_up_to_four_entries(self):
        lists = {many: [list(value) for length in range(5) for value in itertools.product(range(many), repeat=length)]
                 for many in (1, 2, 3)}
        for lead, scores, order in ranked_kinds(1, 2, 3):
            for value in lists[len(scores)]:
                self.check(lead, scores, order, value)

    def test_lists_with_entries_that_are_not_there(self):
        for lead, scores, order in drawn_rankings(32, 40, 1, 5):
            for length in range(5):
                for value in itertools.product(range(-1, len(scores) + 1), repeat=length):
                    self.check(lead, scores, order, list(value))
            self.check(lead, scores, order, [order[0], HUGE])
            self.check(lead, scores, order, [-HUGE, order[0]])

    def test_every_chain_that_is_found(self):
        for lead, scores, order in drawn_rankings(33, 100, 1, 8):
            for upper in order:
                for chain in all_chains(lead, scores, order, upper):
                    self.assertIs(is_chain(lead, scores, order, list(chain)), True)

    def test_named_edges(self):
        self.assertIs(is_chain(3, S, O, []), False)
        for entry in range(4):
            self.assertIs(is_chain(3, S, O, [entry]), False)
            self.assertIs(is_chain(3, S, O, [entry, entry]), False)
        self.assertIs(is_chain(3, S, O, [0, 1]), True)
        self.assertIs(is_chain(3, S, O, [0, 1, 2, 3]), True)
        self.assertIs(is_chain(3, S, O, [0, 2]), False)
        self.assertIs(is_chain(3, S, O, [1, 0]), False)
        self.assertIs(is_chain(3, S, O, [0, 1, 1]), False)
        self.assertIs(is_chain(3, S, O, [0, 1, 0]), False)
        self.assertIs(is_chain(3, S, O, [0, 1, 2, 3, 4]), False)
        self.assertIs(is_chain(3, S, O, [-4, 1]), False)
        self.assertIs(is_chain(3, S, O, [2, -1]), False)
        self.assertIs(is_chain(3, S, O, [0, 1] * 200), False)

    def test_not_always_directly_below(self):
        self.assertIs(is_chain(5, S, O, [0, 2]), True)
        self.assertIs(is_chain(7, S, O, [0, 3]), True)
        self.assertIs(is_chain(5, S, [0, 3, 1, 2], [0, 2]), True)
        self.assertIs(is_chain(5, S, [0, 3, 1, 2], [0, 1, 2]), True)
        self.assertIs(is_chain(5, S, [0, 3, 1, 2], [0, 3]), False)

    def test_in_orders_that_are_not_settled(self):
        self.assertIs(is_chain(3, R, O, [1, 2, 3]), True)
        self.assertIs(is_chain(3, R, O, [1, 3]), True)
        self.assertIs(is_chain(3, R, O, [0, 1]), False)
        self.assertIs(is_chain(3, [4, 9, 5], O[:3], [0, 2]), True)
        self.assertIs(is_chain(3, [4, 9, 5], [2, 1, 0], [0, 2]), False)

    def test_exactly_the_lead_and_one_less(self):
        for lead in (1, 2, 5, HUGE):
            for order in ([0, 1], [1, 0]):
                self.assertIs(is_chain(lead, [-3, lead - 3], order, order), False)
                self.assertIs(is_chain(lead, [-3, lead - 4], order, order), True)

    def test_any_other_value(self):
        for value in NO_LISTS:
            for lead, scores, order in ((3, S, O), (3, R, O), (9, S, O), (1, [7], [0]), (1, [7, 7], [0, 1])):
                self.assertIs(is_chain(lead, scores, order, value), False)

    def test_any_other_item(self):
        for item in (True, False, None, "0", "1", "", 0.0, 1.0, 2.5, [0], [1], [], (0, 1), (), {}, b"0", object(), len):
            for value in ([item], [item, 3], [0, item], [item, item], [0, item, 3], [0, 1, item], [item, 1, 2]):
                self.assertIs(is_chain(9, S, O, value), False, value)
        self.assertIs(is_chain(9, S, O, [[0, 1]]), False)
        self.assertIs(is_chain(9, S, O, [False, True]), False)
        self.assertIs(is_chain(9, S, O, [0, True]), False)
        self.assertIs(is_chain(9, S, O, [False, 1]), False)

    def test_28_entries(self):
        self.assertIs(is_chain(2, ASCENDING, ASCENDING, ASCENDING), True)
        self.assertIs(is_chain(2, ASCENDING, ASCENDING, ASCENDING[::-1]), False)
        self.assertIs(is_chain(2, ASCENDING, ASCENDING, ASCENDING[:13] + ASCENDING[14:]), False)
        self.assertIs(is_chain(3, ASCENDING, ASCENDING, ASCENDING[:13] + ASCENDING[14:]), True)


class ChainBetween(unittest.TestCase):

    def check(self, lead, scores, order):
        for upper in order:
            shortest = {}
            for chain in all_chains(lead, scores, order, upper):
                shortest[chain[-1]] = min(len(chain), shortest.get(chain[-1], 99))
            for lower in order:
                told = chain_between(lead, scores, order, upper, lower)
                case = (lead, scores, order, upper, lower)
                if lower not in shortest:
                    self.assertIsNone(told, case)
                    continue
                self.assertIs(type(told), list, case)
                self.assertIs(is_chain(lead, scores, order, told), True, case)
                self.assertEqual((told[0], told[-1], len(told)), (upper, lower, shortest[lower]), case)

    def test_all_kinds_of_rankings(self):
        for lead, scores, order in ranked_kinds(1, 2, 3, 4):
            self.check(lead, scores, order)

    def test_drawn_rankings_settled_or_not(self):
        for lead, scores, order in drawn_rankings(34, 120, 4, 8):
            self.check(lead, scores, order)
            self.check(lead, scores, left_order(lead, scores, order))

    def test_none(self):
        for entry in range(4):
            self.assertIsNone(chain_between(3, S, O, entry, entry))
        self.assertIsNone(chain_between(3, S, O, 3, 0))
        self.assertIsNone(chain_between(3, R, O, 0, 3))
        self.assertIsNone(chain_between(2, S, O, 0, 1))
        self.assertIsNone(chain_between(1, [7], [0], 0, 0))

    def test_as_few_entries_as_possible(self):
        self.assertEqual(chain_between(3, S, O, 0, 3), [0, 1, 2, 3])
        self.assertEqual(len(chain_between(5, S, O, 0, 3)), 3)
        self.assertEqual(chain_between(7, S, O, 0, 3), [0, 3])
        self.assertEqual(chain_between(5, S, [0, 3, 1, 2], 0, 2), [0, 2])
        self.assertEqual(chain_between(3, [0, 2, 4, 2], [0, 1, 3, 2], 1, 3), [1, 3])

    def test_a_later_entry_may_be_the_shorter_way(self):
        self.assertEqual(chain_between(5, [0, 1, 4, 8], [0, 1, 2, 3], 0, 3), [0, 2, 3])
        self.assertEqual(chain_between(5, [0, 1, 5, 3, 7], [0, 1, 2, 3, 4], 0, 4), [0, 3, 4])

    def test_28_entries(self):
        self.assertEqual(chain_between(2, ASCENDING, ASCENDING, 0, 27), ASCENDING)
        self.assertEqual(len(chain_between(3, ASCENDING, ASCENDING, 0, 27)), 15)
        self.assertEqual(chain_between(28, ASCENDING, ASCENDING, 0, 27), [0, 27])
        self.assertIsNone(chain_between(1, ASCENDING, ASCENDING, 0, 27))
        self.assertIsNone(chain_between(2, ASCENDING, ASCENDING, 27, 0))
        self.assertEqual(chain_between(HUGE, [7] * 28, ASCENDING, 3, 24), [3, 24])


class HoldersOf(unittest.TestCase):

    def check(self, lead, scores, order):
        for entry in order:
            expected = [one for one in range(len(scores)) if chain_leads(lead, scores, order, one, entry)]
            self.assertEqual(holders_of(lead, scores, order, entry), expected, (lead, scores, order, entry))

    def test_small_rankings(self):
        for lead, scores, order in small_rankings():
            self.check(lead, scores, order)

    def test_all_kinds_of_four_entries(self):
        for lead, scores, order in ranked_kinds(4):
            self.check(lead, scores, order)

    def test_drawn_rankings_settled_or_not(self):
        for lead, scores, order in drawn_rankings(35, 300, 4, 12):
            self.check(lead, scores, order)
            self.check(lead, scores, left_order(lead, scores, order))

    def test_where_chains_are(self):
        for lead, scores, order in drawn_rankings(36, 60, 1, 6):
            for entry in order:
                expected = [upper for upper in range(len(scores))
                            if any(chain[-1] == entry for chain in all_chains(lead, scores, order, upper))]
                self.assertEqual(holders_of(lead, scores, order, entry), expected)

    def test_ascending(self):
        self.assertEqual(holders_of(9, S, [3, 1, 2, 0], 0), [1, 2, 3])
        self.assertEqual(holders_of(9, S, [3, 1, 2, 0], 2), [1, 3])
        self.assertEqual(holders_of(9, S, [3, 1, 2, 0], 3), [])

    def test_none(self):
        self.assertEqual(holders_of(1, [7], [0], 0), [])
        self.assertEqual(holders_of(1, S, O, 3), [])
        self.assertEqual(holders_of(3, R, O, 3), [1, 2])
        self.assertEqual(holders_of(3, R, O, 0), [])

    def test_28_entries(self):
        self.assertEqual(holders_of(2, ASCENDING, ASCENDING, 27), list(range(27)))
        self.assertEqual(holders_of(1, ASCENDING, ASCENDING, 27), [])
        self.assertEqual(holders_of(HUGE, [7] * 28, ASCENDING[::-1], 5), list(range(6, 28)))


class IsAbove(unittest.TestCase):

    def check(self, lead, scores, order):
        left = left_order(lead, scores, order)
        for one, other in itertools.product(order, repeat=2):
            expected = left.index(one) < left.index(other)
            self.assertIs(is_above(lead, scores, order, one, other), expected, (lead, scores, order, one, other))

    def test_all_pairs_of_small_rankings(self):
        for lead, scores, order in small_rankings():
            self.check(lead, scores, order)

    def test_all_kinds_of_four_entries(self):
        for lead, scores, order in ranked_kinds(4):
            self.check(lead, scores, order)

    def test_drawn_rankings(self):
        for lead, scores, order in drawn_rankings(37, 300, 1, 9):
            self.check(lead, scores, order)

    def test_what_chains_and_scores_say(self):
        for lead, scores, order in drawn_rankings(38, 200, 2, 7):
            for one, other in itertools.permutations(order, 2):
                down, up = chain_leads(lead, scores, order, one, other), chain_leads(lead, scores, order, other, one)
                expected = down or (not up and scores[one] > scores[other])
                self.assertIs(is_above(lead, scores, order, one, other), expected)

    def test_in_settled_orders_a_chain_holds_back(self):
        for lead, scores in kinds_of_rankings(4):
            for order in settled_orders(lead, scores):
                for one, other in itertools.permutations(order, 2):
                    if scores[other] - scores[one] >= lead:
                        chained = chain_between(lead, scores, order, one, other) is not None
                        self.assertIs(is_above(lead, scores, order, one, other), chained)

    def test_itself(self):
        for entry in range(4):
            self.assertIs(is_above(3, S, O, entry, entry), False)
            self.assertIs(is_above(3, R, O, entry, entry), False)
        self.assertIs(is_above(1, [7], [0], 0, 0), False)

    def test_not_the_order_itself_decides(self):
        self.assertIs(is_above(3, R, O, 0, 1), False)
        self.assertIs(is_above(3, R, O, 1, 0), True)
        self.assertIs(is_above(3, R, O, 2, 3), True)
        self.assertIs(is_above(3, R, O, 3, 2), False)

    def test_28_entries_upside_down(self):
        for one, other in itertools.product(range(28), repeat=2):
            self.assertIs(is_above(2, ASCENDING, ASCENDING, one, other), one < other)
            self.assertIs(is_above(1, ASCENDING, ASCENDING, one, other), one > other)

    def test_scores_of_31_digits(self):
        step = (10 ** 31 - 1) // 27
        scores = [step * entry for entry in range(28)]
        self.assertLessEqual(len(str(scores[27])), 31)
        for one, other in itertools.product((0, 1, 13, 26, 27), repeat=2):
            self.assertIs(is_above(step + 1, scores, ASCENDING, one, other), one < other)
            self.assertIs(is_above(step, scores, ASCENDING, one, other), one > other)
        self.assertIs(is_above(HUGE, [HUGE, 0], [1, 0], 0, 1), True)
        self.assertIs(is_above(HUGE, [HUGE - 1, 0], [1, 0], 0, 1), False)

    def test_the_order_that_is_left(self):
        for lead, scores, order in drawn_rankings(39, 30, 28, 28):
            left = settled_order(lead, scores, order)
            for one, other in itertools.product(range(28), repeat=2):
                self.assertIs(is_above(lead, scores, order, one, other), left.index(one) < left.index(other))


if __name__ == "__main__":
    unittest.main()
