"""[2] and [16]: how many settled orders there are, how many with an entry on top, and their indices."""

import itertools
import math
import random
import unittest

from leadboard.boards import Board
from leadboard.counts import count_settled, count_with_top, nth_settled, settled_rank
from leadboard.errors import InvalidEntryError, InvalidNumberError, NotSettledError
from tests.rankings import HUGE, S, all_wrong, drawn_rankings, kinds_of_rankings, left_order, mixed_kinds_of_rankings
from tests.rankings import settled_orders

ASCENDING = list(range(28))


def every_ranking():
    """All kinds of rankings of up to four entries, and of five but for the numbers of the entries."""
    for many in (1, 2, 3, 4):
        yield from kinds_of_rankings(many)
    yield from mixed_kinds_of_rankings(5, 161)


def product_of(lead, scores):
    """The product of [2], from sorted scores alone."""
    steps = sorted(scores)
    return math.prod(1 + sum(score - lower < lead for lower in steps[:at]) for at, score in enumerate(steps))


def grown_score():
    """A score of many more than 31 digits that a board has returned."""
    board = Board(1, [10 ** 31 - 1])
    for _ in range(200):
        board.add_points(0, board.scores[0])
    return board.scores[0]


class CountSettled(unittest.TestCase):

    def test_all_kinds_of_small_rankings(self):
        for lead, scores in every_ranking():
            self.assertEqual(count_settled(lead, scores), len(settled_orders(lead, scores)), (lead, scores))

    def test_drawn_rankings_of_five_entries(self):
        for lead, scores, _ in drawn_rankings(162, 60, 5, 5):
            self.assertEqual(count_settled(lead, scores), len(settled_orders(lead, scores)), (lead, scores))

    def test_the_product_for_drawn_rankings(self):
        for lead, scores, _ in itertools.chain(drawn_rankings(163, 200, 1, 27), drawn_rankings(164, 50, 28, 28)):
            self.assertEqual(count_settled(lead, scores), product_of(lead, scores), (lead, scores))

    def test_28_entries(self):
        self.assertEqual(count_settled(1, ASCENDING), 1)
        self.assertEqual(count_settled(2, ASCENDING), 2 ** 27)
        self.assertEqual(count_settled(3, ASCENDING[::-1]), 2 * 3 ** 26)
        self.assertEqual(count_settled(27, ASCENDING), math.factorial(27) * 27)
        self.assertEqual(count_settled(28, ASCENDING), math.factorial(28))
        self.assertEqual(count_settled(1, [7] * 28), math.factorial(28))
        self.assertEqual(count_settled(1, [5] * 14 + [6] * 14), math.factorial(14) ** 2)

    def test_exactly_the_lead_and_one_less(self):
        for lead in (1, 2, 7, HUGE):
            self.assertEqual(count_settled(lead, [-3, lead - 3]), 1)
            self.assertEqual(count_settled(lead, [-3, lead - 4]), 2)
            self.assertEqual(count_settled(lead, [lead - 4, -3, -3]), 6)

    def test_single_entry(self):
        for lead, score in ((1, 0), (HUGE, HUGE), (3, -HUGE)):
            self.assertEqual(count_settled(lead, [score]), 1)

    def test_scores_of_31_digits(self):
        most = 10 ** 31 - 1
        self.assertEqual(count_settled(most, [most, -most, 0]), 1)
        self.assertEqual(count_settled(most, [most, 0, 1]), 4)
        self.assertEqual(count_settled(most, [most, 1, -most + 2]), 4)
        self.assertEqual(count_settled(1, [most] * 3 + [-most] * 2), 12)

    def test_scores_of_more_digits_that_a_board_returned(self):
        score = grown_score()
        self.assertGreater(len(str(score)), 90)
        scores = [score, score + 2, score - 2, score + 4]
        self.assertEqual(count_settled(3, scores), 8)
        self.assertEqual([count_with_top(3, scores, entry) for entry in range(4)], [1, 2, 1, 4])
        self.assertEqual(nth_settled(3, scores, 7), [3, 2, 0, 1])
        self.assertEqual(settled_rank(3, scores, [3, 2, 0, 1]), 7)
        self.assertEqual([count_settled(lead, [score, 0]) for lead in (score, score + 1)], [1, 2])


class CountWithTop(unittest.TestCase):

    def test_all_kinds_of_small_rankings(self):
        for lead, scores in every_ranking():
            tops = [order[0] for order in settled_orders(lead, scores)]
            for entry in range(len(scores)):
                self.assertEqual(count_with_top(lead, scores, entry), tops.count(entry), (lead, scores, entry))

    def test_all_entries_together_are_all_orders(self):
        for lead, scores, _ in itertools.chain(drawn_rankings(165, 150, 1, 27), drawn_rankings(166, 50, 28, 28)):
            tops = [count_with_top(lead, scores, entry) for entry in range(len(scores))]
            self.assertEqual(sum(tops), product_of(lead, scores), (lead, scores))
            self.assertEqual([many > 0 for many in tops], [self.can_lead(lead, scores, at) for at in range(len(tops))])

    def can_lead(self, lead, scores, entry):
        """Whether an entry is in the first group."""
        steps = sorted(set(scores), reverse=True)
        while steps[0] > scores[entry]:
            if steps[0] - steps[1] >= lead:
                return False
            steps = steps[1:]
        return True

    def test_28_entries(self):
        self.assertEqual([count_with_top(1, ASCENDING, entry) for entry in ASCENDING], [0] * 27 + [1])
        self.assertEqual([count_with_top(2, ASCENDING, entry) for entry in ASCENDING],
                         [1] + [2 ** (entry - 1) for entry in range(1, 28)])
        self.assertEqual({count_with_top(28, ASCENDING, entry) for entry in ASCENDING}, {math.factorial(27)})
        self.assertEqual({count_with_top(HUGE, [7] * 28, entry) for entry in ASCENDING}, {math.factorial(27)})

    def test_equal_scores_count_alike(self):
        for lead in (1, 2, 3, 5):
            scores = [6, 4, 6, 8, 4, 6]
            tops = [count_with_top(lead, scores, entry) for entry in range(6)]
            self.assertEqual(tops, [tops[0], tops[1], tops[0], tops[3], tops[1], tops[0]])

    def test_single_entry(self):
        self.assertEqual(count_with_top(1, [0], 0), 1)
        self.assertEqual(count_with_top(HUGE, [-HUGE], 0), 1)

    def test_scores_of_31_digits(self):
        scores = [HUGE, 0, 1, -HUGE]
        self.assertEqual([count_with_top(HUGE, scores, entry) for entry in range(4)], [2, 1, 1, 0])
        self.assertEqual([count_with_top(HUGE + 1, scores, entry) for entry in range(4)], [4, 2, 4, 2])

    def test_entries_that_are_not_there(self):
        for entry in (-1, 4, True, None, "0", 1.0):
            with self.assertRaises(InvalidEntryError):
                count_with_top(3, S, entry)


class NthSettled(unittest.TestCase):

    def test_the_list_of_all_settled_orders(self):
        for lead, scores in every_ranking():
            listed = settled_orders(lead, scores)
            told = [nth_settled(lead, scores, index) for index in range(len(listed))]
            self.assertEqual(told, listed, (lead, scores))
            self.assertEqual({type(order) for order in told}, {list})

    def test_as_new_lists(self):
        first = nth_settled(3, S, 5)
        second = nth_settled(3, S, 5)
        self.assertIsNot(first, second)
        first.clear()
        self.assertEqual(nth_settled(3, S, 5), second)

    def test_there_and_back_for_28_entries(self):
        draw = random.Random(167)
        for lead, scores, _ in drawn_rankings(168, 12, 28, 28):
            many = product_of(lead, scores)
            for index in sorted({0, many - 1, many // 2, draw.randrange(many), draw.randrange(many)}):
                order = nth_settled(lead, scores, index)
                self.assertEqual(sorted(order), ASCENDING)
                self.assertEqual(all_wrong(lead, scores, order), [])
                self.assertEqual(settled_rank(lead, scores, order), index)
                if index + 1 < many:
                    self.assertLess(order, nth_settled(lead, scores, index + 1))

    def test_neighbours_in_list_order(self):
        # Of two orders with neighbouring indices no settled order lies between.
        steps = [0] * 20 + [4, 5, 8] + [9] * 5
        for lead, scores in ((2, ASCENDING), (3, ASCENDING[::-1]), (28, ASCENDING), (5, steps)):
            many = product_of(lead, scores)
            for index in (0, 1, many // 3, many // 2, many - 2):
                first, second = nth_settled(lead, scores, index), nth_settled(lead, scores, index + 1)
                self.assertLess(first, second)
                self.assertEqual([settled_rank(lead, scores, order) for order in (first, second)], [index, index + 1])

    def test_the_first_and_the_last_of_28_entries(self):
        last = math.factorial(28) - 1
        self.assertEqual(nth_settled(HUGE, ASCENDING, 0), ASCENDING)
        self.assertEqual(nth_settled(HUGE, ASCENDING, last), ASCENDING[::-1])
        self.assertEqual(nth_settled(1, [7] * 28, 1), ASCENDING[:26] + [27, 26])
        self.assertEqual(nth_settled(1, ASCENDING, 0), ASCENDING[::-1])
        self.assertEqual(nth_settled(2, ASCENDING, 0), ASCENDING)
        self.assertEqual(nth_settled(2, ASCENDING, 2 ** 27 - 1), ASCENDING[::-1])

    def test_all_orders_of_close_entries(self):
        every = [list(order) for order in itertools.permutations(range(5))]
        self.assertEqual([nth_settled(9, [3, 1, 4, 1, 5], index) for index in range(120)], every)

    def test_other_indices(self):
        for lead, scores, many in ((3, S, 8), (1, S, 1), (9, S, 24), (1, [7], 1), (2, ASCENDING, 2 ** 27)):
            for index in (-1, -many, many, many + 1, HUGE, -HUGE, True, False, None, "0", 0.0, [0], (0,)):
                with self.assertRaises(InvalidNumberError):
                    nth_settled(lead, scores, index)
            self.assertEqual(settled_rank(lead, scores, nth_settled(lead, scores, many - 1)), many - 1)


class SettledRank(unittest.TestCase):

    def test_the_list_of_all_settled_orders(self):
        for lead, scores in every_ranking():
            listed = settled_orders(lead, scores)
            told = [settled_rank(lead, scores, order) for order in listed]
            self.assertEqual(told, list(range(len(listed))), (lead, scores))

    def test_drawn_orders_lead_back(self):
        for lead, scores, order in drawn_rankings(169, 60, 1, 28):
            left = left_order(lead, scores, order)
            self.assertEqual(nth_settled(lead, scores, settled_rank(lead, scores, left)), left)

    def test_orders_that_are_not_settled(self):
        for lead, scores, order in drawn_rankings(170, 200, 2, 28):
            wrong = all_wrong(lead, scores, order)
            if wrong:
                with self.assertRaises(NotSettledError) as caught:
                    settled_rank(lead, scores, order)
                self.assertEqual(caught.exception.place, wrong[0])

    def test_single_entry(self):
        self.assertEqual(settled_rank(1, [0], [0]), 0)
        self.assertEqual(settled_rank(HUGE, [-HUGE], [0]), 0)


if __name__ == "__main__":
    unittest.main()
