"""[9] and [12]: walks and the pairs that they turn."""

import itertools
import random
import unittest

from leadboard.errors import InvalidWalkError
from leadboard.walks import count_exchanges, is_complete, is_walk, order_after, turned_pairs
from tests.rankings import HUGE, O, R, S, all_wrong, drawn_rankings, first_fault, small_rankings, swapped, walked

# What is no place at all, in whatever ranking.
NO_PLACES = [-1, -2, -3, -HUGE, HUGE, 28, True, False, None, "0", "1", "", 0.0, 1.0, [0], [1], [], (0,), (), {}, b"0"]
NO_LISTS = [(0, 1, 2), (), (0,), "012", "", b"012", None, {}, {0: 0}, {0, 1, 2}, True, False, 0, 3, 1.5, range(3),
            object(), len]


class Walks(unittest.TestCase):

    def check_walk(self, lead, scores, order, walk, left):
        complete = not all_wrong(lead, scores, left)
        self.assertIs(is_walk(lead, scores, order, walk), True, (lead, scores, order, walk))
        self.assertEqual(order_after(lead, scores, order, walk), left)
        self.assertIs(is_complete(lead, scores, order, walk), complete)

    def check_no_walk(self, lead, scores, order, walk, index):
        self.assertIs(is_walk(lead, scores, order, walk), False, (lead, scores, order, walk))
        for function in (order_after, is_complete):
            with self.assertRaises(InvalidWalkError) as caught:
                function(lead, scores, order, walk)
            self.assertEqual(caught.exception.index, index, (lead, scores, order, walk))
            self.assertIs(type(caught.exception.index), type(index))

    def check_list(self, lead, scores, order, walk):
        """Checks a list of integers that may be a walk or not."""
        fault = first_fault(lead, scores, order, walk)
        if fault is not None:
            self.check_no_walk(lead, scores, order, walk, fault)
            return
        left = order
        for place in walk:
            left = swapped(left, place)
        self.check_walk(lead, scores, order, walk, left)

    def test_empty_walk(self):
        self.check_walk(3, R, O, [], O)
        self.check_walk(3, S, O, [], O)
        self.check_walk(1, [7], [0], [], [0])
        self.assertIs(is_complete(3, R, O, []), False)
        self.assertIs(is_complete(3, S, O, []), True)
        self.assertIs(is_complete(1, [7], [0], []), True)

    def test_whole_walks_and_their_beginnings(self):
        draw = random.Random(21)
        for lead, scores, order in drawn_rankings(22, 150):
            for choose in (min, max, draw.choice):
                walk, orders, pairs = walked(lead, scores, order, choose)
                for length, left in enumerate(orders):
                    self.check_walk(lead, scores, order, walk[:length], left)
                    self.assertIs(is_complete(lead, scores, order, walk[:length]), length == len(walk))

    def test_one_place_replaced_put_in_or_left_out(self):
        draw = random.Random(23)
        for lead, scores, order in drawn_rankings(24, 60, 2, 6):
            walk = walked(lead, scores, order, draw.choice)[0]
            places = range(-2, len(scores) + 1)
            for index in range(len(walk)):
                self.check_list(lead, scores, order, walk[:index] + walk[index + 1:])
                for place in places:
                    self.check_list(lead, scores, order, walk[:index] + [place] + walk[index + 1:])
            for index, place in itertools.product(range(len(walk) + 1), places):
                self.check_list(lead, scores, order, walk[:index] + [place] + walk[index:])

    def test_all_short_lists(self):
        for scores, lead in (([4, 9, 8], 3), ([4, 6, 8], 2), ([4, 6, 8], 3), ([9, 4, 7], 3)):
            for length in range(4):
                for walk in itertools.product(range(-3, 4), repeat=length):
                    self.check_list(lead, scores, [0, 1, 2], list(walk))

    def test_what_is_no_place(self):
        for item in NO_PLACES:
            self.check_no_walk(2, S, O, [item], 0)
            self.check_no_walk(2, S, O, [item, 0, 1], 0)
            self.check_no_walk(2, S, O, [2, 0, item], 2)
            self.check_no_walk(2, S, O, [2, 0, item, item, 1], 2)
            walk = walked(2, S, O, min)[0]
            for index in range(len(walk)):
                self.check_no_walk(2, S, O, walk[:index] + [item] + walk[index + 1:], index)
            self.check_no_walk(2, S, O, walk + [item], 6)

    def test_values_that_equal_a_place(self):
        self.check_walk(3, R, O, [0, 1], [1, 2, 0, 3])
        self.check_no_walk(3, R, O, [False, 1, 2], 0)
        self.check_no_walk(3, R, O, [0, True, 2], 1)
        self.check_no_walk(3, R, O, [0, 1.0, 2], 1)
        self.check_no_walk(1, S, O, [True], 0)

    def test_places_out_of_the_order(self):
        self.check_no_walk(1, [1, 2], [0, 1], [-1], 0)
        self.check_no_walk(1, [1, 2], [0, 1], [-2], 0)
        self.check_no_walk(1, [1, 2], [0, 1], [1], 0)
        self.check_no_walk(1, [2, 1], [0, 1], [-1], 0)
        self.check_no_walk(2, S, O, [3], 0)
        self.check_no_walk(2, S, O, [2, 1, 3], 2)
        self.check_no_walk(2, S, O, [0, 4], 1)

    def test_a_place_right_now_and_wrong_at_its_turn(self):
        self.check_walk(3, R, O, [0, 1, 2], [1, 2, 3, 0])
        self.check_no_walk(3, R, O, [1], 0)
        self.check_no_walk(3, R, O, [0, 0], 1)
        self.check_no_walk(3, R, O, [0, 2], 1)
        self.check_no_walk(3, R, O, [0, 1, 2, 0], 3)

    def test_no_exchange_in_settled_orders(self):
        for place in range(-1, 5):
            self.check_no_walk(3, S, O, [place], 0)
            self.check_no_walk(1, [7, 7], [0, 1], [place], 0)
            self.check_no_walk(1, [7], [0], [place], 0)

    def test_exactly_the_lead_and_one_less(self):
        for lead in (1, 2, 5, HUGE):
            self.check_walk(lead, [-3, lead - 3], [0, 1], [0], [1, 0])
            self.check_no_walk(lead, [-3, lead - 4], [0, 1], [0], 0)

    def test_no_lists(self):
        for value in NO_LISTS:
            self.check_no_walk(3, R, O, value, None)
            self.check_no_walk(3, S, O, value, None)
            self.check_no_walk(1, [7], [0], value, None)

    def test_28_entries_upside_down(self):
        ascending = list(range(28))
        walk, orders, pairs = walked(1, ascending, ascending, max)
        self.assertEqual(len(walk), 378)
        self.check_walk(1, ascending, ascending, walk, list(range(27, -1, -1)))
        self.check_walk(1, ascending, ascending, walk[:-1], orders[-2])
        self.check_no_walk(1, ascending, ascending, walk + [0], 378)
        self.check_no_walk(1, ascending, ascending, [27], 0)


class Exchanges(unittest.TestCase):

    def check(self, lead, scores, order, expected):
        self.assertEqual(turned_pairs(lead, scores, order), expected, (lead, scores, order))
        self.assertEqual(count_exchanges(lead, scores, order), len(expected))
        self.assertIs(type(count_exchanges(lead, scores, order)), int)

    def test_what_walks_do(self):
        draw = random.Random(25)
        for lead, scores, order in drawn_rankings(26, 300):
            for choose in (min, max, draw.choice, draw.choice):
                walk, orders, pairs = walked(lead, scores, order, choose)
                self.check(lead, scores, order, sorted(pairs))

    def test_small_rankings(self):
        for lead, scores, order in small_rankings():
            self.check(lead, scores, order, sorted(walked(lead, scores, order, min)[2]))

    def test_28_entries_of_which_all_pairs_are_turned(self):
        ascending, descending = list(range(28)), list(range(27, -1, -1))
        pairs = list(itertools.combinations(range(28), 2))
        self.assertEqual(len(pairs), 378)
        self.check(1, ascending, ascending, pairs)
        self.check(2, ascending, ascending, [])
        self.check(1, descending, descending, sorted((upper, lower) for lower, upper in pairs))

    def test_none_for_a_settled_order(self):
        self.check(3, S, O, [])
        self.check(1, S, [3, 2, 1, 0], [])
        self.check(1, [7], [0], [])
        self.check(1, [7, 7, 7], [1, 2, 0], [])

    def test_the_upper_entry_at_first(self):
        self.check(2, [8, 6], [1, 0], [(1, 0)])
        self.check(2, [6, 8], [0, 1], [(0, 1)])
        self.check(1, [10, 8, 6], [2, 1, 0], [(1, 0), (2, 0), (2, 1)])
        self.check(1, [8, 10, 6], [2, 0, 1], [(0, 1), (2, 0), (2, 1)])

    def test_only_pairs_that_pass(self):
        self.check(3, R, O, [(0, 1), (0, 2), (0, 3)])
        self.check(3, [4, 9, 8, 10], [0, 2, 1, 3], [(0, 1), (0, 2), (0, 3)])
        self.check(3, [1, 3, 5], [0, 1, 2], [])

    def test_tuples_in_a_list(self):
        pairs = turned_pairs(1, S, O)
        self.assertIs(type(pairs), list)
        self.assertEqual([type(pair) for pair in pairs], [tuple] * 6)


if __name__ == "__main__":
    unittest.main()
