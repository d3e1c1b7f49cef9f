"""[19]: lists of lifts that do the same, and the orders that tell others apart."""

import itertools
import random
import unittest

from leadboard.lifts import after_lifts, is_parting, parting_order, same_lifts, short_lifts
from tests.rankings import HUGE, O, S, all_wrong, kinds_of_rankings, lift_table, near

ASCENDING = list(range(28))
NO_ORDERS = [(0, 1, 2, 3), (), "0123", "", b"0123", None, {}, {0: 0, 1: 1, 2: 2, 3: 3}, {0, 1, 2, 3}, True, False, 0, 4,
             1.5, range(4), object(), len, [], [0], [0, 1, 2], [0, 1, 2, 2], [0, 1, 2, 4], [1, 2, 3, 4], [-1, 0, 1, 2],
             [0, 1, 2, 3, 4], [0, 1, 2, HUGE], [0] * 400, [[0, 1, 2, 3]], [False, 1, 2, 3], [0, True, 2, 3],
             [0, 1, 2, None], [0, 1, 2, "3"], [0, 1, 2, 3.0], [0, 1, 2, [3]], [(0,), 1, 2, 3]]


def what_they_do(table, lifts):
    """The orders to which lifts lead all settled orders, one after the other."""
    left = list(table)
    for entry in lifts:
        left = [table[order][entry] for order in left]
    return left


def lists_up_to(many, length):
    """All lists of lifts of up to so many of so many entries, the shorter ones ahead, and ascending."""
    for each in range(length + 1):
        for lifts in itertools.product(range(many), repeat=each):
            yield list(lifts)


def drawn_lifts(draw, many, least, most):
    return [draw.randrange(many) for _ in range(draw.randint(least, most))]


class Kind:
    """A ranking with what all its lists of up to as many lifts as it has entries do."""

    def __init__(self, lead, scores):
        self.lead, self.scores, self.many = lead, scores, len(scores)
        self.table = lift_table(lead, scores)
        self.first = {}
        for lifts in lists_up_to(self.many, self.many):
            self.first.setdefault(tuple(self.done(lifts)), lifts)

    def done(self, lifts):
        return what_they_do(self.table, lifts)

    def shortest(self, lifts):
        return self.first[tuple(self.done(lifts))]


def every_kind():
    for many in (1, 2, 3, 4):
        for lead, scores in kinds_of_rankings(many):
            yield Kind(lead, scores)


class ShortLifts(unittest.TestCase):

    def check(self, kind, lifts):
        told = short_lifts(kind.lead, kind.scores, lifts)
        self.assertEqual(told, kind.shortest(lifts), (kind.lead, kind.scores, lifts))

    def test_all_lists_of_up_to_four_lifts(self):
        for kind in every_kind():
            for lifts in lists_up_to(kind.many, 4):
                self.check(kind, lifts)

    def test_all_lists_of_up_to_six_lifts(self):
        for many in (1, 2, 3):
            for lead, scores in kinds_of_rankings(many):
                kind = Kind(lead, scores)
                for lifts in lists_up_to(many, 6):
                    self.check(kind, lifts)
        for lead, scores in ((3, S), (5, [4, 10, 8, 6]), (9, S), (3, [4, 9, 6, 11])):
            kind = Kind(lead, scores)
            for lifts in lists_up_to(4, 6):
                self.check(kind, lifts)

    def test_drawn_lists(self):
        draw = random.Random(81)
        for kind in every_kind():
            for _ in range(20):
                self.check(kind, drawn_lifts(draw, kind.many, 5, 6))
            self.check(kind, drawn_lifts(draw, kind.many, 90, 100))

    def test_only_the_last_lift_of_an_entry_counts(self):
        self.assertEqual(short_lifts(3, S, [3, 1, 3, 1]), [1, 3])
        self.assertEqual(short_lifts(9, S, [3, 1, 3, 1]), [3, 1])
        self.assertEqual(short_lifts(9, S, [1] * 100), [1])
        self.assertEqual(short_lifts(9, S, [1, 3] * 50), [1, 3])
        self.assertEqual(short_lifts(9, S, [3, 1] * 50), [3, 1])

    def test_hidden_ones(self):
        self.assertEqual(short_lifts(3, S, [0, 1]), [1])
        self.assertEqual(short_lifts(3, S, [1, 0]), [1, 0])
        self.assertEqual(short_lifts(3, S, [1, 0, 2]), [0, 2])
        self.assertEqual(short_lifts(3, S, [1, 2, 0]), [0, 2])
        self.assertEqual(short_lifts(3, S, [1, 2]), [1, 2])
        self.assertEqual(short_lifts(9, S, [3, 2, 1, 0]), [2, 1, 0])
        self.assertEqual(short_lifts(9, S, [0, 1, 2]), [0, 1, 2])
        # Lifts other than the last ones hide nothing.
        self.assertEqual(short_lifts(3, S, [1, 0, 1]), [1])
        self.assertEqual(short_lifts(3, S, [0, 1, 0]), [1, 0])

    def test_close_to_no_other_one(self):
        self.assertEqual(short_lifts(2, S, [0, 1, 2, 3]), [])
        self.assertEqual(short_lifts(1, [7], [0]), [])
        self.assertEqual(short_lifts(1, [7], [0] * 100), [])
        self.assertEqual(short_lifts(3, [4, 9, 6], [1, 0]), [0])
        self.assertEqual(short_lifts(HUGE, [0, HUGE], [0, 1]), [])
        self.assertEqual(short_lifts(HUGE, [0, HUGE - 1], [0, 1]), [1])

    def test_the_least_of_several(self):
        self.assertEqual(short_lifts(3, S, [3, 0]), [0, 3])
        self.assertEqual(short_lifts(3, S, [3, 1]), [1, 3])
        self.assertEqual(short_lifts(3, [0, 2, 100, 102], [3, 1]), [1, 3])
        self.assertEqual(short_lifts(3, [0, 100, 1, 102], [3, 2, 1, 0]), [0, 1])
        self.assertEqual(short_lifts(3, [0, 2, 4, 6, 8], [3, 4, 1, 0]), [1, 0, 3, 4])

    def test_no_lifts(self):
        for kind in every_kind():
            self.assertEqual(short_lifts(kind.lead, kind.scores, []), [])

    def test_28_entries_with_100_lifts(self):
        draw = random.Random(82)
        for lead in (1, 2, 3, 7, 28):
            lifts = drawn_lifts(draw, 28, 100, 100)
            told = short_lifts(lead, ASCENDING, lifts)
            self.assertEqual(len(told), len(set(told)))
            self.assertEqual(short_lifts(lead, ASCENDING, told), told)
            for order in (ASCENDING, ASCENDING[::-1]):
                if not all_wrong(lead, ASCENDING, order):
                    expected = after_lifts(lead, ASCENDING, order, lifts)
                    self.assertEqual(after_lifts(lead, ASCENDING, order, told), expected)
        self.assertEqual(short_lifts(28, ASCENDING, ASCENDING), ASCENDING[1:])
        self.assertEqual(short_lifts(2, ASCENDING, ASCENDING), ASCENDING[1:])
        self.assertEqual(short_lifts(2, ASCENDING, ASCENDING[::-1]), ASCENDING[:27][::-1])
        self.assertEqual(short_lifts(1, ASCENDING, ASCENDING), [])


class TwoLists(unittest.TestCase):

    def check(self, kind, lifts, other_lifts):
        """Checks two lists of lifts by what they do to all settled orders."""
        one, other = kind.done(lifts), kind.done(other_lifts)
        arguments = kind.lead, kind.scores, lifts, other_lifts
        self.assertIs(same_lifts(*arguments), one == other, arguments)
        parting = parting_order(*arguments)
        apart = [list(order) for order, left, other_left in zip(kind.table, one, other) if left != other_left]
        if not apart:
            self.assertIsNone(parting, arguments)
        else:
            self.assertIs(type(parting), list)
            self.assertIn(parting, apart, arguments)
        return arguments, apart

    def check_all_values(self, kind, lifts, other_lifts):
        arguments, apart = self.check(kind, lifts, other_lifts)
        for order in itertools.permutations(range(kind.many)):
            self.assertIs(is_parting(*arguments, list(order)), list(order) in apart, (arguments, order))

    def test_all_kinds_of_rankings(self):
        draw = random.Random(83)
        for kind in every_kind():
            lists = [[], [0]] + [drawn_lifts(draw, kind.many, 1, 6) for _ in range(7)]
            for lifts, other_lifts in itertools.product(lists, repeat=2):
                self.check_all_values(kind, lifts, other_lifts)

    def test_lists_that_do_the_same(self):
        draw = random.Random(84)
        for kind in every_kind():
            for _ in range(6):
                lifts = drawn_lifts(draw, kind.many, 1, 6)
                short = kind.shortest(lifts)
                self.check_all_values(kind, lifts, list(short))
                self.check_all_values(kind, list(short), lifts)
                self.check_all_values(kind, lifts, list(lifts))
                self.check_all_values(kind, lifts, [draw.randrange(kind.many)] + short)
                self.check_all_values(kind, lifts, lifts[1:])

    def test_all_pairs_of_short_lists(self):
        for lead, scores in ((3, [4, 6, 8]), (9, [4, 6, 8]), (3, [4, 6, 9]), (3, [4, 4, 9]), (1, [4, 6, 8])):
            kind = Kind(lead, scores)
            for lifts, other_lifts in itertools.product(lists_up_to(kind.many, 3), repeat=2):
                self.check(kind, lifts, other_lifts)

    def test_equal_short_lists(self):
        draw = random.Random(85)
        for kind in every_kind():
            lists = [drawn_lifts(draw, kind.many, 0, 6) for _ in range(8)]
            for lifts, other_lifts in itertools.combinations(lists, 2):
                arguments = kind.lead, kind.scores
                equal = short_lifts(*arguments, lifts) == short_lifts(*arguments, other_lifts)
                self.assertIs(same_lifts(*arguments, lifts, other_lifts), equal)

    def test_no_lifts(self):
        self.assertIs(same_lifts(3, S, [], []), True)
        self.assertIs(same_lifts(3, S, [], [0]), False)
        self.assertIs(same_lifts(2, S, [], [0, 1, 2, 3]), True)
        self.assertIsNone(parting_order(3, S, [], []))
        self.assertIsNone(parting_order(2, S, [3], []))
        self.assertIs(is_parting(3, S, [], [], O), False)
        self.assertIs(is_parting(3, S, [], [1], O), True)
        self.assertIs(is_parting(3, S, [], [0], O), False)

    def test_single_entry(self):
        self.assertIs(same_lifts(1, [7], [0] * 100, []), True)
        self.assertIsNone(parting_order(1, [7], [0] * 100, []))
        self.assertIs(is_parting(1, [7], [0], [], [0]), False)

    def test_orders_that_are_not_settled(self):
        self.assertIs(is_parting(3, S, [1], [2], [0, 1, 2, 3]), True)
        self.assertIs(is_parting(3, S, [1], [2], [3, 2, 1, 0]), True)
        for order in itertools.permutations(range(4)):
            if all_wrong(3, S, list(order)):
                self.assertIs(is_parting(3, S, [1], [2], list(order)), False)
        self.assertIs(is_parting(3, S, [1], [2], [0, 2, 1, 3]), False)

    def test_any_other_value(self):
        for value in NO_ORDERS:
            for lifts, other_lifts in (([1], [2]), ([], [0, 1, 2, 3]), ([1], [1])):
                self.assertIs(is_parting(3, S, lifts, other_lifts, value), False, value)
                self.assertIs(is_parting(9, S, lifts, other_lifts, value), False, value)

    def check_28(self, lead, lifts, other_lifts):
        arguments = lead, ASCENDING, lifts, other_lifts
        parting = parting_order(*arguments)
        self.assertIs(same_lifts(*arguments), parting is None)
        if parting is not None:
            self.assertEqual(all_wrong(lead, ASCENDING, parting), [])
            self.assertIs(is_parting(*arguments, parting), True)
            left = after_lifts(lead, ASCENDING, parting, lifts)
            self.assertNotEqual(left, after_lifts(lead, ASCENDING, parting, other_lifts))
        return parting

    def test_28_entries_with_100_lifts(self):
        draw = random.Random(86)
        for lead in (1, 2, 3, 7, 28):
            lifts = drawn_lifts(draw, 28, 100, 100)
            short = short_lifts(lead, ASCENDING, lifts)
            self.assertIsNone(self.check_28(lead, lifts, short))
            self.assertIsNone(self.check_28(lead, short, lifts))
            for at in range(0, len(short), 3):
                self.assertIsNotNone(self.check_28(lead, lifts, short[:at] + short[at + 1:]))
            for at in range(0, len(short) - 1, 3):
                turned = short[:at] + [short[at + 1], short[at]] + short[at + 2:]
                close = near(lead, ASCENDING, short[at], short[at + 1])
                self.assertIs(self.check_28(lead, lifts, turned) is not None, close)

    def test_scores_of_31_digits(self):
        scores = [0, HUGE - 1, 2 * HUGE - 1]
        self.assertIs(same_lifts(HUGE, scores, [2], []), True)
        self.assertIs(same_lifts(HUGE, scores, [0], [1]), False)
        self.assertIs(same_lifts(HUGE, scores, [0, 1], [1]), True)
        self.assertIs(same_lifts(HUGE + 1, scores, [2], []), False)


if __name__ == "__main__":
    unittest.main()
