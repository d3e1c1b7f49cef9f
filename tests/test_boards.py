"""[21] and [22]: boards of all kinds, changed call by call."""

import itertools
import random
import unittest

from leadboard.boards import Board, CountingBoard
from leadboard.errors import BoardError, EmptyHistoryError
from tests.models import KINDS, Model, check_board, drawn_board, drawn_call, made, state_of, worked_boards
from tests.rankings import HUGE, O, R, S, kinds_of_rankings, left_order, mixed_kinds_of_rankings

MOST = 10 ** 31 - 1  # the greatest integer of 31 digits


class Calls(unittest.TestCase):

    def do(self, board, model, name, arguments):
        """Does a call on a board and on its model."""
        if name == "undo" and len(model.states) == 1:
            with self.assertRaises(EmptyHistoryError):
                board.undo()
            return
        told, expected = getattr(board, name)(*arguments), getattr(model, name)(*arguments)
        self.assertEqual(told, expected, (name, arguments))
        self.assertIs(type(told), type(expected))

    def test_drawn_calls(self):
        draw = random.Random(211)
        for turn in range(100):
            board, model, locked = drawn_board(draw, KINDS[turn % 4])
            check_board(self, board, model, locked)
            free = [entry for entry in range(len(board.scores)) if entry not in locked]
            for _ in range(draw.choice((5, 20, 40))):
                self.do(board, model, *drawn_call(draw, board.scores, free, 15))
                check_board(self, board, model, locked)

    def test_drawn_calls_on_28_entries(self):
        draw = random.Random(212)
        for kind in KINDS:
            scores = [draw.randint(0, 60) for _ in range(28)]
            board, model = made(kind, 4, scores, [27, 3]), Model(4, scores)
            for _ in range(40):
                self.do(board, model, *drawn_call(draw, board.scores, [0, 1, 2, 5, 9, 13, 20, 26], 70))
                check_board(self, board, model, [27, 3])

    def test_300_calls(self):
        for kind in KINDS:
            draw = random.Random(213)
            scores = [draw.randint(0, 20) for _ in range(5)]
            board, model = made(kind, 3, scores, [4]), Model(3, scores)
            for number in range(300):
                name, arguments = drawn_call(draw, board.scores, [0, 1, 2, 3], 15)
                if name == "undo" and (number < 10 or number % 3 == 0):
                    name, arguments = "lift", (number % 4,)
                self.do(board, model, name, arguments)
            check_board(self, board, model, [4])

    def test_300_calls_and_none_left(self):
        for kind in KINDS:
            board, first = made(kind, 2, S, [1]), state_of(made(kind, 2, S, [1]))
            for number in range(150):
                [lambda: board.set_score(0, number), lambda: board.add_points(2, -1),
                 lambda: board.lift(3)][number % 3]()
                self.assertEqual(len(board), number + 1)
            for number in range(150):
                self.assertIsNone(board.undo())
            self.assertEqual(state_of(board), first)
            with self.assertRaises(EmptyHistoryError):
                board.undo()

    def test_scores_of_31_digits_and_sums_beyond(self):
        draw = random.Random(214)
        for turn in range(16):
            lead = draw.choice((1, HUGE, MOST, draw.randint(1, MOST)))
            scores = [draw.choice((MOST, -MOST, 0, draw.randint(-MOST, MOST))) for _ in range(4)]
            board, model = made(KINDS[turn % 4], lead, scores), Model(lead, scores)
            for _ in range(25):
                self.do(board, model, *drawn_call(draw, board.scores, [0, 1, 2, 3], MOST))
                check_board(self, board, model)

    def test_sums_of_more_digits_are_passed_back(self):
        board, model = CountingBoard(HUGE, [MOST, -MOST, 1]), Model(HUGE, [MOST, -MOST, 1])
        for turn in range(120):
            entry = turn % 3
            self.do(board, model, "add_points", (entry, board.scores[(turn + 1) % 3]))
            self.do(board, model, "set_score", (entry, 2 * board.scores[entry] + 1))
            check_board(self, board, model)
        self.assertGreater(max(len(str(abs(score))) for score in board.scores), 60)
        again = Board(HUGE, board.scores)
        self.assertEqual(again.scores, board.scores)

    def test_a_single_entry(self):
        for kind in KINDS:
            board, model = made(kind, 3, [7]), Model(3, [7])
            calls = [("lift", (0,)), ("set_score", (0, -5)), ("add_points", (0, HUGE)), ("undo", ()), ("undo", ())]
            for name, arguments in calls + [("lift", (0,)), ("undo", ()), ("undo", ()), ("undo", ())]:
                self.do(board, model, name, arguments)
                check_board(self, board, model)


class AtFirst(unittest.TestCase):

    def test_the_entries_stand_by_their_numbers_and_the_order_is_settled(self):
        for lead, scores in ((3, S), (3, R), (1, S), (2, [1, 5, 2, 2, 9]), (1, [7]), (MOST, [0, MOST]), (4, [3] * 28)):
            for kind in KINDS:
                board = made(kind, lead, scores)
                self.assertEqual((board.lead, board.scores, len(board)), (lead, scores, 0))
                self.assertEqual(board.order, left_order(lead, scores, list(range(len(scores)))))
                check_board(self, board, Model(lead, scores))

    def test_the_most_entries(self):
        for kind in KINDS:
            self.assertEqual((kind.MOST, type(kind.MOST)), (28, int))
            self.assertEqual(made(kind, 3, S).MOST, 28)
            self.assertEqual(len(made(kind, 1, list(range(28))).order), 28)
        self.assertEqual(vars(Board)["MOST"], 28)

    def test_methods_stand_in_the_class_itself(self):
        for name in ("set_score", "add_points", "lift", "undo", "tried", "place_of", "twin", "described", "lead",
                     "scores", "order", "__len__", "__eq__"):
            self.assertIn(name, vars(Board))
        self.assertIn("exchanges", vars(CountingBoard))

    def test_properties_are_not_assigned(self):
        for kind in KINDS:
            board = made(kind, 3, S)
            for name in ("lead", "scores", "order", "exchanges")[:4 if hasattr(board, "exchanges") else 3]:
                with self.assertRaises(AttributeError):
                    setattr(board, name, 1)


class SetAndAdd(unittest.TestCase):

    def test_all_scores_of_small_boards(self):
        for kind, start in itertools.product(KINDS, ([0, 2, 4], [4, 1, 1])):
            for entry, score in itertools.product(range(3), range(-3, 8)):
                board, model = made(kind, 2, start), Model(2, start)
                self.assertEqual(board.set_score(entry, score), model.set_score(entry, score))
                check_board(self, board, model)
                board, model = made(kind, 2, start), Model(2, start)
                self.assertEqual(board.add_points(entry, score), model.add_points(entry, score))
                check_board(self, board, model)

    def test_exactly_the_lead_and_one_less(self):
        for lead in (1, 2, 7, HUGE):
            for kind in KINDS:
                board = made(kind, lead, [5, 5])
                self.assertEqual([board.add_points(1, lead - 1), board.order], [1, [0, 1]])
                self.assertEqual([board.add_points(1, 1), board.order], [0, [1, 0]])
                self.assertEqual([board.set_score(1, 5), board.order], [0, [1, 0]])
                self.assertEqual([board.set_score(0, 4 + lead), board.order], [1, [1, 0]])
                self.assertEqual([board.set_score(0, 5 + lead), board.order], [0, [0, 1]])

    def test_calls_that_change_nothing_count(self):
        for kind in KINDS:
            board = made(kind, 3, S)
            self.assertEqual([board.set_score(2, 8), board.add_points(2, 0), board.lift(0)], [2, 2, 0])
            self.assertEqual((len(board), board.scores, board.order), (3, S, O))
            self.assertEqual([board.undo(), len(board), board.undo(), len(board), board.undo(), len(board)],
                             [None, 2, None, 1, None, 0])


class Lift(unittest.TestCase):

    def test_really_raising_the_score_and_giving_it_back(self):
        rankings = [ranking for many in (1, 2, 3) for ranking in kinds_of_rankings(many)]
        for number, (lead, scores) in enumerate(rankings + mixed_kinds_of_rankings(4, 215)):
            for entry, more in itertools.product(range(len(scores)), (0, 1, 50)):
                board, model = made(KINDS[number % 4], lead, scores), Model(lead, scores)
                told, expected = board.lift(entry), model.lift(entry, more)
                self.assertEqual(told, expected, (lead, scores, entry))
                check_board(self, board, model)

    def test_behind_other_calls(self):
        for number, (board, model, locked) in enumerate(worked_boards(216, 80)):
            entry = [entry for entry in range(len(board.scores)) if entry not in locked][-1]
            told, expected = board.lift(entry), model.lift(entry, number)
            self.assertEqual(told, expected)
            check_board(self, board, model, locked)

    def test_the_score_stays(self):
        for kind in KINDS:
            board = made(kind, 3, S)
            for entry in (1, 3, 0, 3, 2):
                board.lift(entry)
                self.assertEqual((board.scores, board.lead), (S, 3))

    def test_places(self):
        board = Board(3, [4, 6, 8, 10, 30])
        self.assertEqual([board.order, board.lift(0), board.lift(3)], [[4, 0, 1, 2, 3], 1, 1])
        self.assertEqual(board.order, [4, 3, 0, 1, 2])
        self.assertEqual([board.lift(1), board.order, board.lift(4)], [2, [4, 3, 1, 2, 0], 0])


class Undo(unittest.TestCase):

    def test_back_through_all_states(self):
        draw = random.Random(217)
        for turn in range(40):
            board, model, locked = drawn_board(draw, KINDS[turn % 4])
            free = [entry for entry in range(len(board.scores)) if entry not in locked]
            for _ in range(12):
                name, arguments = drawn_call(draw, board.scores, free, 10)
                if name != "undo":
                    getattr(board, name)(*arguments)
                    getattr(model, name)(*arguments)
            while len(model.states) > 1:
                self.assertIsNone(board.undo())
                model.undo()
                check_board(self, board, model, locked)
            with self.assertRaises(EmptyHistoryError):
                board.undo()
            check_board(self, board, model, locked)

    def test_nothing_left(self):
        for kind in KINDS:
            board = made(kind, 3, R, [2])
            before = state_of(board)
            for _ in range(3):
                with self.assertRaises(BoardError) as caught:
                    board.undo()
                self.assertIs(type(caught.exception), EmptyHistoryError)
                self.assertEqual(state_of(board), before)
            board.set_score(0, 20)
            self.assertIsNone(board.undo())
            with self.assertRaises(EmptyHistoryError):
                board.undo()
            self.assertEqual(state_of(board), before)

    def test_an_order_that_the_scores_alone_do_not_tell(self):
        board = Board(3, S)
        board.set_score(3, 20)
        board.set_score(3, 10)
        self.assertEqual((board.scores, board.order), (S, [3, 0, 1, 2]))
        board.undo()
        board.undo()
        self.assertEqual((board.scores, board.order), (S, O))

    def test_new_calls_behind_undone_ones(self):
        board = Board(3, S)
        board.set_score(0, 20)
        board.set_score(1, 30)
        board.undo()
        board.lift(3)
        self.assertEqual((board.scores, board.order, len(board)), ([20, 6, 8, 10], [0, 3, 1, 2], 2))
        board.undo()
        self.assertEqual((board.scores, board.order, len(board)), ([20, 6, 8, 10], [0, 1, 2, 3], 1))
        board.undo()
        self.assertEqual((board.scores, board.order, len(board)), (S, O, 0))

    def test_errors_are_no_calls(self):
        board = Board(3, S)
        board.set_score(1, 7)
        for wrong in (lambda: board.set_score(4, 1), lambda: board.add_points(1, True), lambda: board.lift(-1),
                      lambda: board.tried((4, 1)), lambda: board.place_of(4)):
            with self.assertRaises(BoardError):
                wrong()
            self.assertEqual(len(board), 1)
        board.undo()
        self.assertEqual((board.scores, len(board)), (S, 0))


if __name__ == "__main__":
    unittest.main()
