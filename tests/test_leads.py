"""[15]: the least lead, the orders that leads leave, and the leads that leave an order."""

import itertools
import unittest

from leadboard.leads import least_lead, leads_to, orders_by_lead
from leadboard.orders import is_settled, settled_order
from tests.rankings import HUGE, O, R, S, all_wrong, drawn_rankings, left_order

ASCENDING = list(range(28))


def small_scores():
    """All orders of up to three entries with scores from -1 to 3, and some of more entries."""
    for many in (1, 2, 3):
        for scores in itertools.product(range(-1, 4), repeat=many):
            for order in itertools.permutations(range(many)):
                yield list(scores), list(order)
    for _, scores, order in drawn_rankings(51, 120, 4, 7):
        yield scores, order


def tried_leads(scores, order):
    """The orders that are left by all leads from 1 up to two above the greatest difference, by their leads."""
    return {lead: left_order(lead, scores, order) for lead in range(1, max(scores) - min(scores) + 3)}


class LeastLead(unittest.TestCase):

    def test_settled_for_it_and_not_for_one_less(self):
        for scores, order in small_scores():
            lead = least_lead(scores, order)
            self.assertIs(type(lead), int)
            self.assertEqual(all_wrong(lead, scores, order), [])
            if lead > 1:
                self.assertNotEqual(all_wrong(lead - 1, scores, order), [])

    def test_the_greatest_difference_of_neighbours_in_the_wrong_direction(self):
        for _, scores, order in drawn_rankings(52, 500, 2, 28):
            worst = max(scores[lower] - scores[upper] for upper, lower in zip(order, order[1:]))
            self.assertEqual(least_lead(scores, order), max(worst + 1, 1), (scores, order))

    def test_at_least_one(self):
        self.assertEqual(least_lead([7], [0]), 1)
        self.assertEqual(least_lead([-HUGE], [0]), 1)
        self.assertEqual(least_lead([7, 7], [0, 1]), 1)
        self.assertEqual(least_lead([9, 4], [0, 1]), 1)
        self.assertEqual(least_lead([HUGE, 0, -HUGE], [0, 1, 2]), 1)
        self.assertEqual(least_lead(ASCENDING, ASCENDING[::-1]), 1)

    def test_edges(self):
        self.assertEqual(least_lead([7, 8], [0, 1]), 2)
        self.assertEqual(least_lead([7, 8], [1, 0]), 1)
        self.assertEqual(least_lead(S, O), 3)
        self.assertEqual(least_lead(R, O), 6)
        self.assertEqual(least_lead(S, [0, 3, 1, 2]), 7)
        self.assertEqual(least_lead(S, [1, 2, 0, 3]), 7)
        self.assertEqual(least_lead(ASCENDING, ASCENDING), 2)
        self.assertEqual(least_lead([-HUGE, HUGE], [0, 1]), 2 * HUGE + 1)

    def test_scores_of_31_digits(self):
        most = 10 ** 31 - 1
        for scores, order in (([-most, most], [0, 1]), ([0, most, most - 5], [2, 0, 1]), ([1, most], [0, 1])):
            lead = least_lead(scores, order)
            self.assertIs(is_settled(lead, scores, order), True)
            self.assertIs(is_settled(lead - 1, scores, order), False)


class OrdersByLead(unittest.TestCase):

    def check_kinds(self, told):
        self.assertIs(type(told), list)
        for pair in told:
            self.assertEqual([type(pair), type(pair[0]), type(pair[1])], [tuple, int, list])

    def test_what_trying_all_leads_finds(self):
        for scores, order in small_scores():
            tried = tried_leads(scores, order)
            expected = [(lead, left) for lead, left in tried.items() if lead == 1 or left != tried[lead - 1]]
            told = orders_by_lead(scores, order)
            self.assertEqual(told, expected, (scores, order))
            self.check_kinds(told)

    def test_only_the_lead_one(self):
        for scores, order in (([7], [0]), ([7, 7], [1, 0]), ([9, 4], [0, 1]), (S, [3, 2, 1, 0]),
                              ([5, 9, 5, 9], [1, 3, 2, 0]), (ASCENDING, ASCENDING[::-1]), ([HUGE] * 28, ASCENDING)):
            self.assertEqual(orders_by_lead(scores, order), [(1, order)])

    def test_two_entries(self):
        for gap in (1, 2, 5, HUGE):
            for low in (-HUGE, 0, 7):
                told = orders_by_lead([low, low + gap], [0, 1])
                self.assertEqual(told, [(1, [1, 0]), (gap + 1, [0, 1])])
                self.assertEqual(orders_by_lead([low + gap, low], [0, 1]), [(1, [0, 1])])

    def test_ends_with_the_order_itself_from_the_least_lead_on(self):
        for _, scores, order in drawn_rankings(53, 300, 1, 12):
            self.assertEqual(orders_by_lead(scores, order)[-1], (least_lead(scores, order), order))

    def test_a_lead_that_changes_the_close_pairs_but_not_the_order(self):
        self.assertEqual(orders_by_lead([4, 9, 10, 8], [0, 1, 2, 3]),
                         [(1, [2, 1, 3, 0]), (2, [1, 2, 3, 0]), (5, [1, 2, 0, 3]), (6, [0, 1, 2, 3])])

    def check_28(self, scores, order, told):
        self.check_kinds(told)
        leads = [lead for lead, _ in told]
        self.assertEqual(leads, sorted(set(leads)))
        self.assertEqual(leads[0], 1)
        for at, (lead, left) in enumerate(told):
            self.assertEqual(left, settled_order(lead, scores, order))
            if at > 0:
                self.assertEqual(settled_order(lead - 1, scores, order), told[at - 1][1])
                self.assertNotEqual(left, told[at - 1][1])
        self.assertEqual(told[-1][1], order)

    def test_28_entries_with_scores_of_31_digits(self):
        scores = [(10 ** 31 - 1) - (7 ** entry) * 10 ** 6 for entry in range(28)]
        self.assertTrue(all(len(str(abs(score))) <= 31 for score in scores))
        for order in (ASCENDING, ASCENDING[::-1], [entry * 17 % 28 for entry in range(28)]):
            self.check_28(scores, order, orders_by_lead(scores, order))

    def test_28_entries_upside_down(self):
        self.assertEqual(orders_by_lead(ASCENDING, ASCENDING), [(1, ASCENDING[::-1]), (2, ASCENDING)])
        wide = [entry * 10 ** 29 for entry in range(28)]
        self.assertEqual(orders_by_lead(wide, ASCENDING), [(1, ASCENDING[::-1]), (10 ** 29 + 1, ASCENDING)])

    def test_28_drawn_entries(self):
        for _, scores, order in drawn_rankings(54, 10, 28, 28):
            self.check_28(scores, order, orders_by_lead(scores, order))


class LeadsTo(unittest.TestCase):

    def test_what_trying_all_leads_finds(self):
        for scores, order in small_scores():
            tried = tried_leads(scores, order)
            goals = itertools.permutations(order) if len(scores) < 5 else [tuple(left) for left in tried.values()]
            for goal in goals:
                leads = [lead for lead, left in tried.items() if left == list(goal)]
                if leads:
                    self.assertEqual(leads, list(range(leads[0], leads[-1] + 1)))
                # With all leads above the greatest difference the order stays as it is.
                greatest = None if leads and leads[-1] == max(tried) else max(leads, default=0)
                expected = (leads[0], greatest) if leads else None
                self.assertEqual(leads_to(scores, order, list(goal)), expected, (scores, order, goal))

    def test_a_tuple_of_integers(self):
        self.assertIs(type(leads_to(R, O, O)), tuple)
        self.assertEqual([type(lead) for lead in leads_to(R, O, [1, 2, 3, 0])], [int, int])
        self.assertIsNone(leads_to(R, O, O)[1])

    def test_the_order_itself(self):
        for _, scores, order in drawn_rankings(55, 300, 1, 12):
            self.assertEqual(leads_to(scores, order, list(order)), (least_lead(scores, order), None))
        self.assertEqual(leads_to([7], [0], [0]), (1, None))
        self.assertEqual(leads_to(S, [3, 2, 1, 0], [3, 2, 1, 0]), (1, None))

    def test_never_left(self):
        self.assertIsNone(leads_to(S, O, [1, 0, 2, 3]))
        self.assertIsNone(leads_to([7, 7], [0, 1], [1, 0]))
        self.assertIsNone(leads_to([9, 4], [0, 1], [1, 0]))
        self.assertIsNone(leads_to(R, O, [3, 2, 1, 0]))
        self.assertIsNone(leads_to(ASCENDING, ASCENDING[::-1], ASCENDING))

    def test_neither_needs_to_be_settled(self):
        self.assertEqual(leads_to(R, O, [3, 1, 2, 0]), (1, 1))
        self.assertEqual(leads_to(R, O, [1, 3, 2, 0]), (2, 2))
        self.assertEqual(leads_to(R, O, [1, 2, 3, 0]), (3, 4))
        self.assertEqual(leads_to(R, O, [1, 0, 2, 3]), (5, 5))
        self.assertEqual(leads_to(R, O, [0, 1, 2, 3]), (6, None))

    def test_two_entries(self):
        for gap in (1, 2, 5, HUGE):
            self.assertEqual(leads_to([-3, gap - 3], [0, 1], [1, 0]), (1, gap))
            self.assertEqual(leads_to([-3, gap - 3], [0, 1], [0, 1]), (gap + 1, None))

    def test_28_entries(self):
        for _, scores, order in drawn_rankings(56, 6, 28, 28):
            told = orders_by_lead(scores, order)
            for at, (lead, left) in enumerate(told):
                greatest = told[at + 1][0] - 1 if at + 1 < len(told) else None
                self.assertEqual(leads_to(scores, order, list(left)), (lead, greatest))
        wide = [entry * 10 ** 29 for entry in range(28)]
        self.assertEqual(leads_to(wide, ASCENDING, ASCENDING[::-1]), (1, 10 ** 29))


if __name__ == "__main__":
    unittest.main()
