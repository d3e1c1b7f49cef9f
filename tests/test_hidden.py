"""[20]: boards whose lead and scores are hidden, and what they answer."""

import copy
import itertools
import random
import unittest

from leadboard import errors
from leadboard.hidden import HiddenBoard, find
from tests.rankings import HUGE, O, R, S, drawn_rankings, left_order

MOST_POINTS = 10 ** 41 - 1  # 41 digits


def answer_to(lead, scores, order, changes):
    """The order behind changes, by exchanges change by change."""
    scores, order = list(scores), left_order(lead, scores, order)
    for entry, points in changes:
        scores[entry] += points
        order = left_order(lead, scores, order)
    return order


def drawn_changes(draw, many, count, spread):
    return [(draw.randrange(many), draw.randint(-spread, spread)) for _ in range(count)]


class Ask(unittest.TestCase):

    def check(self, hidden, ranking, changes):
        told = hidden.ask(changes)
        self.assertEqual(told, answer_to(*ranking, changes), (ranking, changes))
        self.assertIs(type(told), list)

    def test_drawn_changes(self):
        draw = random.Random(201)
        for ranking in drawn_rankings(202, 120, 1, 12):
            hidden = HiddenBoard(*ranking)
            for count in (0, 1, 2, 3, 20, draw.randrange(21), 0):
                self.check(hidden, ranking, drawn_changes(draw, len(ranking[1]), count, draw.choice((2, 9, 40))))

    def test_28_entries(self):
        draw = random.Random(203)
        for ranking in drawn_rankings(204, 4, 28, 28):
            hidden = HiddenBoard(*ranking)
            for count in (0, 1, 19, 20):
                self.check(hidden, ranking, drawn_changes(draw, 28, count, 30))

    def test_all_single_changes_of_small_boards(self):
        for order in itertools.permutations(range(3)):
            ranking = (2, [1, 2, 4], list(order))
            hidden = HiddenBoard(*ranking)
            for entry, points in itertools.product(range(3), range(-6, 7)):
                self.check(hidden, ranking, [(entry, points)])

    def test_orders_that_are_not_settled_at_first(self):
        self.assertEqual(HiddenBoard(3, R, O).ask([]), [1, 2, 3, 0])
        self.assertEqual(HiddenBoard(1, S, O).ask([]), [3, 2, 1, 0])
        # Settled at first, 0 falls behind 1; it would have stayed on top if the points had come sooner.
        self.assertEqual(HiddenBoard(3, [4, 7], [0, 1]).ask([(0, 1)]), [1, 0])
        self.assertEqual(HiddenBoard(3, [4, 6], [0, 1]).ask([(0, 1)]), [0, 1])

    def test_it_settles_behind_each_change(self):
        hidden = HiddenBoard(3, S, O)
        self.assertEqual(hidden.ask([(0, -99), (0, 99)]), [1, 2, 3, 0])
        self.assertEqual(hidden.ask([(0, 0)]), O)
        self.assertEqual(hidden.ask([(3, 9), (3, -9)]), [3, 0, 1, 2])
        self.assertEqual(hidden.ask([(3, -9), (3, 9)]), O)
        self.assertEqual(hidden.ask([(3, 1)]), [3, 0, 1, 2])
        self.assertEqual(hidden.ask([(0, 1), (3, 1), (1, -1)]), [3, 2, 0, 1])

    def test_each_question_begins_with_the_hidden_board(self):
        hidden = HiddenBoard(3, S, O)
        for _ in range(5):
            self.assertEqual(hidden.ask([(0, 50)]), O)
            self.assertEqual(hidden.ask([(3, 50)]), [3, 0, 1, 2])
            self.assertEqual(hidden.ask([]), O)

    def test_points_of_41_digits(self):
        self.assertEqual(len(str(MOST_POINTS)), 41)
        hidden = HiddenBoard(HUGE, [HUGE, 0, -HUGE], [2, 1, 0])
        for changes in ([(0, MOST_POINTS)], [(2, MOST_POINTS)], [(0, -MOST_POINTS)], [(1, MOST_POINTS)] * 20,
                        [(1, MOST_POINTS), (2, MOST_POINTS + 1 - HUGE), (0, MOST_POINTS - HUGE)],
                        [(1, MOST_POINTS), (1, -MOST_POINTS)], [(0, -MOST_POINTS)] * 20):
            self.check(hidden, (HUGE, [HUGE, 0, -HUGE], [2, 1, 0]), changes)

    def test_one_point_decides(self):
        for lead in (1, 2, 7, HUGE):
            hidden = HiddenBoard(lead, [5, 5], [0, 1])
            self.assertEqual(hidden.ask([(1, lead)]), [1, 0])
            self.assertEqual(hidden.ask([(1, lead - 1)]), [0, 1])
            self.assertEqual(hidden.ask([(0, -lead)]), [1, 0])
            self.assertEqual(hidden.ask([(0, 1 - lead)]), [0, 1])

    def test_single_entry(self):
        hidden = HiddenBoard(2, [7], [0])
        for changes in ([], [(0, 5)], [(0, -MOST_POINTS)] * 20):
            self.assertEqual(hidden.ask(changes), [0])

    def test_by_name(self):
        self.assertEqual(HiddenBoard(order=O, lead=3, scores=R).ask(changes=[(0, 9)]), O)
        self.assertEqual(HiddenBoard(scores=R, order=[3, 2, 1, 0], lead=3).ask(changes=[(0, 8)]), [3, 0, 2, 1])


class Properties(unittest.TestCase):

    def test_entries(self):
        for many in (1, 2, 5, 28):
            self.assertEqual(HiddenBoard(3, [7] * many, list(range(many))).entries, many)

    def test_questions_count_what_has_returned(self):
        hidden = HiddenBoard(3, S, O)
        self.assertEqual(hidden.questions, 0)
        for number in range(1, 30):
            hidden.ask([(0, number)] * (number % 3))
            self.assertEqual((hidden.questions, hidden.questions), (number, number))
            with self.assertRaises(errors.InvalidChangeError):
                hidden.ask([(4, 1)])
            self.assertEqual((hidden.questions, hidden.entries), (number, 4))

    def test_each_object_by_itself(self):
        first, second = HiddenBoard(3, S, O), HiddenBoard(3, S, O)
        first.ask([])
        first.ask([(0, 1)])
        second.ask([])
        third = HiddenBoard(3, S, O)
        self.assertEqual((first.questions, second.questions, third.questions), (2, 1, 0))

    def test_find_is_counted(self):
        hidden = HiddenBoard(3, S, O)
        hidden.ask([])
        find(hidden)
        self.assertGreater(hidden.questions, 1)

    def test_they_are_not_assigned(self):
        hidden = HiddenBoard(3, S, O)
        for name in ("entries", "questions"):
            self.assertIsInstance(vars(HiddenBoard)[name], property)
            with self.assertRaises(AttributeError):
                setattr(hidden, name, 1)


class WrongChanges(unittest.TestCase):

    def test_no_list_of_tuples(self):
        hidden = HiddenBoard(3, S, O)
        one = (0, 1)
        cases = [None, True, 3, 1.5, "", "01", b"01", (), (one,), {}, {0: 1}, {one}, object(), one, [one] * 21,
                 [one] * 400, [[0, 1]], [one, [0, 1]], [[one]], [()], [(0,)], [(0, 1, 2)], [None], [0], [True],
                 ["01"], [one] * 19 + [(0, 1, 2)], [{0: 1}], [(one,)], [((0, 1), (0, 1))]]
        cases += [[(entry, 1)] for entry in (-1, -4, 4, 28, HUGE, True, False, None, "0", 0.0, [0], (0,), object())]
        cases += [[(0, points)] for points in (True, False, None, "1", 1.0, [1], (1,), {}, object())]
        cases += [[one, (0, 2), (4, 1)], [one, (0, True)], [(3, 1), (0, 2), (0, None), one]]
        for number, changes in enumerate(cases):
            with self.assertRaises(errors.BoardError) as caught:
                hidden.ask(changes)
            self.assertIs(type(caught.exception), errors.InvalidChangeError, changes)
            self.assertEqual(hidden.questions, number)
            self.assertEqual(hidden.ask([]), O)

    def test_lists_and_tuples_of_derived_classes(self):
        class Changes(list):
            pass

        class Change(tuple):
            pass

        hidden = HiddenBoard(3, S, O)
        for changes in (Changes(), Changes([(0, 1)]), [Change((0, 1))]):
            with self.assertRaises(errors.InvalidChangeError):
                hidden.ask(changes)

    def test_entries_of_other_many_entries(self):
        for many, entry in ((1, 1), (1, -1), (2, 2), (28, 28), (28, -28)):
            with self.assertRaises(errors.InvalidChangeError):
                HiddenBoard(3, [7] * many, list(range(many))).ask([(entry, 1)])
        self.assertEqual(HiddenBoard(3, [7] * 28, list(range(28))).ask([(27, 3)])[0], 27)

    def test_20_changes_are_not_too_many(self):
        self.assertEqual(HiddenBoard(3, S, O).ask([(0, 1)] * 20), answer_to(3, S, O, [(0, 1)] * 20))


class Made(unittest.TestCase):

    def test_wrong_arguments_in_their_order(self):
        wrong = {"lead": (0, -1, True, None, "3", 3.0), "scores": (tuple(S), [], [1] * 29, [True, 1, 2, 3], None),
                 "order": ([0, 1, 2], [0, 1, 2, 2], [0, 1, 2, 4], (0, 1, 2, 3), [0, True, 2, 3], None)}
        kinds = {"lead": errors.InvalidLeadError, "scores": errors.InvalidScoresError,
                 "order": errors.InvalidOrderError}
        for many in (1, 2, 3):
            for names in itertools.combinations(wrong, many):
                for values in itertools.product(*[wrong[name] for name in names]):
                    arguments = dict({"lead": 3, "scores": S, "order": O}, **dict(zip(names, values)))
                    for call in (lambda: HiddenBoard(**arguments), lambda: HiddenBoard(*arguments.values())):
                        with self.assertRaises(errors.BoardError) as caught:
                            call()
                        self.assertIs(type(caught.exception), kinds[names[0]], arguments)

    def test_arguments_stay_and_copies_are_kept(self):
        scores, order, changes = list(R), list(O), [(0, 9), (2, -5)]
        hidden = HiddenBoard(3, scores, order)
        expected, still = copy.copy(hidden.ask(changes)), copy.copy(hidden.ask([]))
        self.assertEqual((scores, order, changes), (R, O, [(0, 9), (2, -5)]))
        scores[0], order[0] = 99, 3
        scores.append(7)
        order.clear()
        self.assertEqual((hidden.entries, hidden.ask(changes), hidden.ask([])), (4, expected, still))
        changes.clear()
        self.assertEqual(hidden.ask([(0, 9), (2, -5)]), expected)

    def test_answers_are_new_lists(self):
        hidden = HiddenBoard(3, S, O)
        for changes in ([], [(0, 0)], [(3, 9)]):
            first, second = hidden.ask(changes), hidden.ask(changes)
            self.assertIsNot(first, second)
            first.clear()
            self.assertEqual(hidden.ask(changes), second)
        self.assertEqual(find(hidden), (3, [0, 2, 4, 6]))


if __name__ == "__main__":
    unittest.main()
