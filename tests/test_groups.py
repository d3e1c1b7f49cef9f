"""[14]: groups, the places that an entry can have, and an order with an entry at a place."""

import itertools
import unittest

from leadboard.chains import groups_of, order_with, place_span
from tests.rankings import HUGE, S, all_wrong, drawn_rankings, kinds_of_rankings, mixed_kinds_of_rankings, near
from tests.rankings import settled_orders, small_rankings

G = [4, 6, 8, 10, 20, 19]


def groups_by_scores(lead, scores):
    """The groups as the document makes them, worked out from sorted scores alone."""
    steps = sorted(scores)
    groups = [[steps[0]]]
    for score, following in zip(steps, steps[1:]):
        if following - score >= lead:
            groups.append([])
        groups[-1].append(following)
    return [[entry for entry in range(len(scores)) if scores[entry] in group] for group in reversed(groups)]


def every_ranking():
    for many in (1, 2, 3, 4):
        yield from kinds_of_rankings(many)
    yield from mixed_kinds_of_rankings(5, 41)


class GroupsOf(unittest.TestCase):

    def test_small_and_drawn_rankings(self):
        for lead, scores, _ in itertools.chain(small_rankings(), drawn_rankings(42, 500, 1, 28)):
            self.assertEqual(groups_of(lead, scores), groups_by_scores(lead, scores), (lead, scores))

    def test_exactly_the_lead_and_one_less(self):
        for lead in (1, 2, 3, 7, HUGE):
            for low in (-HUGE, -1, 0, HUGE):
                self.assertEqual(groups_of(lead, [low, low + lead]), [[1], [0]])
                self.assertEqual(groups_of(lead, [low + lead, low]), [[0], [1]])
                self.assertEqual(groups_of(lead, [low, low + lead - 1]), [[0, 1]])
                self.assertEqual(groups_of(lead, [low, low + 2 * lead - 2, low + lead - 1]), [[0, 1, 2]])
                self.assertEqual(groups_of(lead, [low, low + 2 * lead - 1, low + lead - 1]), [[1], [0, 2]])

    def test_equal_scores(self):
        self.assertEqual(groups_of(1, [5, 5, 5]), [[0, 1, 2]])
        self.assertEqual(groups_of(1, [5, 7, 5, 7, 6]), [[1, 3], [4], [0, 2]])
        self.assertEqual(groups_of(2, [5, 7, 5, 7, 9]), [[4], [1, 3], [0, 2]])
        self.assertEqual(groups_of(1, [-HUGE] * 28), [list(range(28))])

    def test_single_entry(self):
        for lead in (1, 2, HUGE):
            for score in (0, -HUGE, HUGE):
                self.assertEqual(groups_of(lead, [score]), [[0]])

    def test_neighbours_of_the_sorted_scores_count(self):
        self.assertEqual(groups_of(3, S), [[0, 1, 2, 3]])
        self.assertEqual(groups_of(3, [10, 4, 8, 6]), [[0, 1, 2, 3]])
        self.assertEqual(groups_of(2, S), [[3], [2], [1], [0]])
        self.assertEqual(groups_of(2, [10, 4, 8, 6]), [[0], [2], [3], [1]])
        self.assertEqual(groups_of(3, G), [[4, 5], [0, 1, 2, 3]])
        self.assertEqual(groups_of(9, G), [[4, 5], [0, 1, 2, 3]])
        self.assertEqual(groups_of(10, G), [[0, 1, 2, 3, 4, 5]])

    def test_28_entries(self):
        ascending = list(range(28))
        self.assertEqual(groups_of(2, ascending), [ascending])
        self.assertEqual(groups_of(1, ascending), [[entry] for entry in ascending[::-1]])
        self.assertEqual(groups_of(1, ascending[::-1]), [[entry] for entry in ascending])

    def test_groups_stand_above_later_ones(self):
        for lead, scores in every_ranking():
            groups = groups_of(lead, scores)
            for order in settled_orders(lead, scores):
                parts = iter(order)
                self.assertEqual([sorted(itertools.islice(parts, len(group))) for group in groups], groups)


class PlaceSpan(unittest.TestCase):

    def test_the_places_in_all_settled_orders(self):
        for lead, scores in every_ranking():
            settled = settled_orders(lead, scores)
            for entry in range(len(scores)):
                first, last = place_span(lead, scores, entry)
                places = {order.index(entry) for order in settled}
                self.assertEqual(places, set(range(first, last + 1)), (lead, scores, entry))

    def test_the_places_of_the_group(self):
        for lead, scores, _ in drawn_rankings(43, 400, 1, 28):
            first = 0
            for group in groups_by_scores(lead, scores):
                for entry in group:
                    self.assertEqual(place_span(lead, scores, entry), (first, first + len(group) - 1))
                first += len(group)

    def test_edges(self):
        self.assertEqual([place_span(3, G, entry) for entry in range(6)], [(2, 5)] * 4 + [(0, 1)] * 2)
        self.assertEqual(place_span(1, [7], 0), (0, 0))
        self.assertEqual([place_span(2, [5, 7], entry) for entry in (0, 1)], [(1, 1), (0, 0)])
        self.assertEqual([place_span(3, [5, 7], entry) for entry in (0, 1)], [(0, 1), (0, 1)])
        self.assertEqual([place_span(1, [7, 7], entry) for entry in (0, 1)], [(0, 1), (0, 1)])
        self.assertEqual(place_span(2, list(range(28)), 13), (0, 27))
        self.assertEqual(place_span(1, list(range(28)), 13), (14, 14))
        self.assertEqual(place_span(HUGE, [HUGE, 0], 0), (0, 0))

    def test_a_tuple_of_integers(self):
        span = place_span(3, G, 0)
        self.assertIs(type(span), tuple)
        self.assertEqual([type(place) for place in span], [int, int])


class OrderWith(unittest.TestCase):

    def check(self, lead, scores):
        for entry, place in itertools.product(range(len(scores)), repeat=2):
            first, last = place_span(lead, scores, entry)
            told = order_with(lead, scores, entry, place)
            case = (lead, scores, entry, place)
            self.assertEqual(told, order_with(lead, scores, entry, place), case)
            if not first <= place <= last:
                self.assertIsNone(told, case)
                continue
            self.assertIs(type(told), list, case)
            self.assertEqual(sorted(told), list(range(len(scores))), case)
            self.assertEqual(all_wrong(lead, scores, told), [], case)
            self.assertEqual(told[place], entry, case)

    def test_all_kinds_of_rankings(self):
        for lead, scores in every_ranking():
            self.check(lead, scores)

    def test_none_exactly_where_no_settled_order_has_it(self):
        for lead, scores in every_ranking():
            settled = settled_orders(lead, scores)
            for entry, place in itertools.product(range(len(scores)), repeat=2):
                there = any(order[place] == entry for order in settled)
                self.assertIs(order_with(lead, scores, entry, place) in settled, there)
                self.assertIs(order_with(lead, scores, entry, place) is None, not there)

    def test_small_and_drawn_rankings(self):
        for lead, scores, _ in itertools.chain(drawn_rankings(44, 150, 1, 12), drawn_rankings(45, 8, 28, 28)):
            self.check(lead, scores)

    def test_28_entries_each_close_to_the_next_one(self):
        self.check(2, list(range(28)))
        self.check(1, list(range(28)))
        self.check(2, [entry * 17 % 28 for entry in range(28)])
        self.check(HUGE, [7] * 28)

    def test_scores_of_31_digits(self):
        self.check(HUGE, [HUGE, 0, -HUGE, 2 * HUGE - 1])
        self.check(HUGE + 1, [HUGE, 0, -HUGE, 2 * HUGE - 1])

    def test_edges(self):
        self.assertEqual(order_with(1, [7], 0, 0), [0])
        self.assertEqual(order_with(3, [5, 7], 0, 0), [0, 1])
        self.assertEqual(order_with(3, [5, 7], 0, 1), [1, 0])
        self.assertIsNone(order_with(2, [5, 7], 0, 0))
        self.assertEqual(order_with(2, [5, 7], 0, 1), [1, 0])
        self.assertIsNone(order_with(3, G, 0, 1))
        self.assertEqual(order_with(3, G, 0, 2)[2], 0)
        self.assertIn(order_with(3, S, 0, 0), settled_orders(3, S))

    def test_the_least_entry_above_one_that_is_not_close(self):
        self.assertFalse(near(3, S, 0, 3))
        self.assertEqual(order_with(3, S, 0, 0), [0, 1, 2, 3])


if __name__ == "__main__":
    unittest.main()
