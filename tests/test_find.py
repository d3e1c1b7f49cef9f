"""[20]: the lead and the scores that questions find."""

import itertools
import random
import unittest

from leadboard.hidden import HiddenBoard, find
from tests.rankings import HUGE, O, S, left_order

MOST = 10 ** 31 - 1  # the greatest integer of 31 digits


class Told:
    """A board of another class, which has nothing but ask and entries, and keeps the questions in a list outside."""

    def __init__(self, lead, scores, order, asked):
        self.ask = lambda changes: answered(lead, scores, order, changes, asked)
        self.entries = len(scores)


def answered(lead, scores, order, changes, asked):
    asked.append(list(changes))
    scores, order = list(scores), left_order(lead, scores, order)
    for entry, points in changes:
        scores[entry] += points
        order = left_order(lead, scores, order)
    return order


class Found(unittest.TestCase):

    def check(self, lead, scores, order):
        hidden = HiddenBoard(lead, scores, order)
        told = find(hidden)
        expected = (lead if len(scores) > 1 else None, [score - scores[0] for score in scores])
        self.assertEqual(told, expected, (lead, scores, order))
        self.assertLessEqual(hidden.questions, 300 + 150 * len(scores), (lead, scores, order))
        return hidden


class SmallBoards(Found):

    def test_single_entry(self):
        for lead, score in ((1, 0), (3, 7), (HUGE, -HUGE), (MOST, MOST)):
            self.check(lead, [score], [0])
        self.assertEqual(find(HiddenBoard(3, [7], [0])), (None, [0]))

    def test_all_of_two_and_three_entries(self):
        for many, scores_up_to, lead_up_to in ((2, 6, 6), (3, 3, 5)):
            for scores in itertools.product(range(scores_up_to + 1), repeat=many):
                for order in itertools.permutations(range(many)):
                    for lead in range(1, lead_up_to + 1):
                        self.check(lead, list(scores), list(order))

    def test_all_of_four_entries_with_two_orders(self):
        for scores in itertools.product(range(-1, 3), repeat=4):
            for lead in range(1, 6):
                self.check(lead, list(scores), [0, 1, 2, 3])
                self.check(lead, list(scores), [3, 1, 2, 0])

    def test_all_of_five_entries_with_two_orders(self):
        for scores in itertools.product(range(3), repeat=5):
            for lead in range(1, 5):
                self.check(lead, list(scores), [0, 1, 2, 3, 4])
                self.check(lead, list(scores), [2, 4, 0, 3, 1])

    def test_all_orders_of_five_entries(self):
        for order in itertools.permutations(range(5)):
            for lead, scores in ((1, [2, 0, 4, 1, 3]), (2, [2, 0, 4, 1, 3]), (9, [5] * 5), (3, [4, 6, 8, 10, 9])):
                self.check(lead, scores, list(order))

    def test_small_steps_around_powers_of_two(self):
        for gap in [2 ** bits + by for bits in range(10) for by in (-1, 0, 1)]:
            for lead in (1, 2, 15, 16, 17, 255, 256, 257):
                self.check(lead, [0, gap], [0, 1])
                self.check(lead, [gap, 0], [0, 1])


class GreatBoards(Found):

    def test_drawn_scores_and_leads_of_all_sizes(self):
        draw = random.Random(205)
        for turn in range(90):
            many = draw.randint(2, 28) if turn % 6 == 0 else draw.randint(2, 7)
            spread = 10 ** draw.randint(0, 31) - 1
            scores = [draw.randint(-spread, spread) for _ in range(many)]
            lead = draw.choice((1, 2, HUGE, MOST, draw.randint(1, spread + 1), draw.randint(1, MOST)))
            self.check(lead, scores, draw.sample(range(many), many))

    def test_28_entries(self):
        ascending = list(range(28))
        for lead in (1, 2, 28, HUGE, MOST):
            self.check(lead, ascending, ascending)
            self.check(lead, [HUGE + at for at in ascending], ascending[::-1])
            self.check(lead, [7] * 28, ascending)
            self.check(lead, [at * HUGE // 28 for at in ascending], ascending)

    def test_farthest_scores(self):
        ascending = list(range(28))
        for lead in (1, HUGE, MOST):
            for scores in ([MOST] + [-MOST] * 27, [-MOST] + [MOST] * 27, [MOST, -MOST] * 14, [-MOST, MOST] * 14):
                self.check(lead, scores, ascending)

    def test_equal_and_near_scores_that_are_great(self):
        for lead in (1, 2, 3, HUGE, MOST):
            for scores in ([HUGE, HUGE, HUGE + 1, HUGE - 1], [-MOST, 1 - MOST, -MOST], [MOST, -MOST], [0, MOST, 1]):
                self.check(lead, scores, list(range(len(scores))))

    def test_entries_that_a_small_lead_keeps_in_place(self):
        for at in range(2, 28):
            self.check(2, list(range(at)), list(range(at)))
            self.check(3, list(range(0, 2 * at, 2)), list(range(at)))

    def test_leads_around_great_powers_of_two(self):
        for bits in (16, 31, 32, 33, 63, 64, 65, 100, 102):
            for by in (-1, 0, 1):
                self.check(2 ** bits + by, [0, 2 ** bits, -2 ** bits], [2, 0, 1])

    def test_scores_of_more_digits_that_a_board_could_return(self):
        for score in (10 ** 33, 300 * MOST, -300 * MOST, 10 ** 39):
            self.check(MOST, [0, score, 5, -score], [1, 0, 3, 2])
            self.check(1, [score, -score, 0, 2 - score], [3, 0, 1, 2])


class OneWayToKnow(Found):

    def test_asked_again_it_finds_the_same(self):
        for lead, scores, order in ((3, S, O), (1, [HUGE, -HUGE, 0], [2, 0, 1]), (9, [4, 4, 4, 5], O)):
            hidden = self.check(lead, scores, order)
            first = hidden.questions
            expected = (lead, [score - scores[0] for score in scores])
            self.assertEqual([find(hidden) for _ in range(3)], [expected] * 3)
            self.assertEqual(hidden.questions, 4 * first)

    def test_objects_of_another_class(self):
        draw = random.Random(206)
        for lead, many, spread in ((1, 2, 3), (3, 5, 9), (HUGE, 4, MOST), (2, 9, 5), (MOST, 28, MOST), (7, 1, 9)):
            scores = [draw.randint(-spread, spread) for _ in range(many)]
            order, asked = draw.sample(range(many), many), []
            told = find(Told(lead, scores, order, asked))
            self.assertEqual(told, (lead if many > 1 else None, [score - scores[0] for score in scores]))
            self.assertLessEqual(len(asked), 300 + 150 * many)

    def test_questions_are_right(self):
        for lead, scores in ((1, [MOST, -MOST, 0]), (MOST, [-MOST, MOST, 0]), (3, S), (2, [5, 5])):
            asked = []
            find(Told(lead, scores, list(range(len(scores))), asked))
            for changes in asked:
                self.assertLessEqual(len(changes), 20)
                for change in changes:
                    self.assertEqual((type(change), [type(item) for item in change]), (tuple, [int, int]))
                    self.assertIn(change[0], range(len(scores)))
                    self.assertLess(abs(change[1]), 10 ** 41)

    def test_scores_less_that_of_entry_0(self):
        for by in (0, 7, -HUGE, 10 ** 29):
            self.assertEqual(find(HiddenBoard(3, [score + by for score in S], O)), (3, [0, 2, 4, 6]))
        self.assertEqual(find(HiddenBoard(3, [10, 8, 6, 4], O)), (3, [0, -2, -4, -6]))

    def test_kinds_and_new_lists(self):
        hidden = HiddenBoard(3, S, O)
        first, second = find(hidden), find(hidden=hidden)
        self.assertEqual((type(first), type(first[0]), type(first[1])), (tuple, int, list))
        self.assertIsNot(first[1], second[1])
        first[1].clear()
        self.assertEqual(find(hidden), second)
        single = HiddenBoard(3, [7], [0])
        find(single)[1].clear()
        self.assertEqual(find(single), (None, [0]))


if __name__ == "__main__":
    unittest.main()
