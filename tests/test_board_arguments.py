"""[3] and [5]: names, parameters and wrong arguments of the classes and their methods."""

import inspect
import itertools
import unittest

from leadboard import boards, errors, hidden
from leadboard.boards import Board, CountingBoard, LockedBoard
from leadboard.hidden import HiddenBoard, find
from tests.models import KINDS, WITH_LOCKS, made, state_of, worked_boards
from tests.rankings import HUGE, O, S

NO_INTEGERS = [True, False, None, "1", "", 1.0, 1.5, [1], [], (1,), (), {}, {1: 1}, b"1", object()]
WRONG = {"entry": [-1, -4, 4, 5, 28, HUGE, -HUGE] + NO_INTEGERS, "score": NO_INTEGERS, "points": NO_INTEGERS}
RIGHT = {"entry": 2, "score": 20, "points": 12}
ERRORS = {"entry": errors.InvalidEntryError, "score": errors.InvalidNumberError,
          "points": errors.InvalidNumberError}
METHODS = {"set_score": ("entry", "score"), "add_points": ("entry", "points"), "lift": ("entry",),
           "place_of": ("entry",)}


def used(kind):
    """A board of a kind behind two calls. Of the entries with locks only 1 is locked."""
    board = made(kind, 3, S, [1])
    board.set_score(3, 12)
    board.lift(0)
    return board


class Interface(unittest.TestCase):

    def test_parameters_of_the_classes(self):
        for kind in KINDS:
            names = ["lead", "scores", "locked"] if kind in WITH_LOCKS else ["lead", "scores"]
            self.assertEqual(list(inspect.signature(kind).parameters), names)
        self.assertEqual(list(inspect.signature(HiddenBoard).parameters), ["lead", "scores", "order"])
        self.assertEqual(list(inspect.signature(find).parameters), ["hidden"])

    def test_parameters_of_the_methods(self):
        for kind in KINDS:
            for name, names in dict(METHODS, undo=(), twin=(), described=()).items():
                self.assertEqual(tuple(inspect.signature(getattr(kind, name)).parameters), ("self",) + names)
            changes = inspect.signature(kind.tried).parameters["changes"]
            self.assertIs(changes.kind, inspect.Parameter.VAR_POSITIONAL)
        self.assertEqual(tuple(inspect.signature(HiddenBoard.ask).parameters), ("self", "changes"))

    def test_defined_where_they_are_listed(self):
        for kind in KINDS:
            self.assertEqual((kind.__module__, vars(boards)[kind.__name__]), ("leadboard.boards", kind))
        for one in (HiddenBoard, find):
            self.assertEqual((one.__module__, vars(hidden)[one.__name__]), ("leadboard.hidden", one))

    def test_by_position_and_by_name(self):
        for kind in KINDS:
            for name, names in METHODS.items():
                arguments = {one: RIGHT[one] for one in names}
                first, second, third = used(kind), used(kind), used(kind)
                told = [getattr(first, name)(*arguments.values()), getattr(second, name)(**arguments),
                        getattr(third, name)(**{one: RIGHT[one] for one in reversed(names)})]
                self.assertEqual(told, [told[0]] * 3)
                self.assertEqual([state_of(board) for board in (second, third)], [state_of(first)] * 2)
            self.assertEqual(kind(scores=S, lead=3, **({"locked": [1]} if kind in WITH_LOCKS else {})),
                             made(kind, 3, S))

    def test_equal_arguments_give_equal_results(self):
        for (first, _, _), (second, _, _) in zip(worked_boards(251, 40), worked_boards(251, 40)):
            self.assertEqual(state_of(first), state_of(second))
            self.assertEqual((first.lift(0) if type(first) is Board else None, first.order),
                             (second.lift(0) if type(second) is Board else None, second.order))


class WrongArguments(unittest.TestCase):

    def check(self, board, name, arguments, kind):
        before = state_of(board)
        for call in (lambda: getattr(board, name)(**arguments), lambda: getattr(board, name)(*arguments.values())):
            with self.assertRaises(errors.BoardError) as caught:
                call()
            self.assertIs(type(caught.exception), kind, (name, arguments))
            self.assertIsInstance(caught.exception, ValueError)
            self.assertEqual(state_of(board), before)

    def test_each_argument_wrong_by_itself(self):
        for kind in KINDS:
            board = used(kind)
            for name, names in METHODS.items():
                for one in names:
                    for wrong in WRONG[one]:
                        arguments = {other: RIGHT[other] for other in names}
                        arguments[one] = wrong
                        self.check(board, name, arguments, ERRORS[one])

    def test_the_first_wrong_parameter_decides(self):
        for kind in KINDS:
            board = used(kind)
            for name in ("set_score", "add_points"):
                for entry, number in itertools.product(WRONG["entry"], NO_INTEGERS):
                    arguments = dict(zip(METHODS[name], (entry, number)))
                    self.check(board, name, arguments, errors.InvalidEntryError)

    def test_locks_between_entries_and_numbers(self):
        for kind in WITH_LOCKS:
            board = used(kind)
            for name in ("set_score", "add_points"):
                for number in NO_INTEGERS + [5]:
                    self.check(board, name, dict(zip(METHODS[name], (1, number))), errors.LockedError)
            self.check(board, "lift", {"entry": 1}, errors.LockedError)
            self.assertEqual(board.place_of(1), board.order.index(1))

    def test_entries_of_other_many_entries(self):
        for many, entry in ((1, 1), (1, -1), (2, 2), (2, -2), (28, 28), (28, -28)):
            for kind in KINDS:
                board = made(kind, 3, [7] * many)
                for name, names in METHODS.items():
                    arguments = dict({other: RIGHT[other] for other in names}, entry=entry)
                    self.check(board, name, arguments, errors.InvalidEntryError)

    def test_the_calls_to_undo_stay(self):
        for kind in KINDS:
            board = used(kind)
            for call in (lambda: board.set_score(0, None), lambda: board.add_points(0, True), lambda: board.lift(9),
                         lambda: board.place_of(None), lambda: board.tried((0, 1), (9, 1))):
                with self.assertRaises(errors.BoardError):
                    call()
            board.undo()
            board.undo()
            self.assertEqual((board.scores, board.order, len(board)), (S, O, 0))
            with self.assertRaises(errors.EmptyHistoryError):
                board.undo()

    def test_lists_of_a_derived_class(self):
        class Row(list):
            pass

        with self.assertRaises(errors.InvalidScoresError):
            Board(3, Row(S))
        with self.assertRaises(errors.InvalidLocksError):
            LockedBoard(3, S, Row([1]))
        with self.assertRaises(errors.InvalidOrderError):
            HiddenBoard(3, S, Row(O))

    def test_scores_that_are_no_scores(self):
        wrong = [(4, 6), "4 6", None, {}, {0: 4}, True, 4, 1.5, [], [4] * 29, [4] * 400, [[4]], object()]
        wrong += [[4, item, 8] for item in (True, False, None, "1", 1.0, [1], (1,), {})]
        for scores in wrong:
            for kind in KINDS:
                with self.assertRaises(errors.InvalidScoresError):
                    made(kind, 3, scores)
            with self.assertRaises(errors.InvalidScoresError):
                HiddenBoard(3, scores, [0, 1, 2])

    def test_leads_that_are_no_leads(self):
        for lead in [0, -1, -HUGE] + NO_INTEGERS:
            for kind in KINDS:
                with self.assertRaises(errors.InvalidLeadError):
                    made(kind, lead, S)
            with self.assertRaises(errors.InvalidLeadError):
                HiddenBoard(lead, S, O)

    def test_any_integers_are_scores_and_points(self):
        board = CountingBoard(3, S)
        for number in (0, -1, HUGE, -HUGE, 10 ** 40):
            board.set_score(1, number)
            self.assertEqual(board.scores[1], number)
            board.add_points(1, number)
            self.assertEqual(board.scores[1], 2 * number)


if __name__ == "__main__":
    unittest.main()
