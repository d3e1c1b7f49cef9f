"""[22]: locked entries, counts of exchanges, and what the kinds of boards are."""

import itertools
import random
import unittest

from leadboard import errors
from leadboard.boards import Board, CountingBoard, LockedBoard, LockedCountingBoard
from leadboard.walks import count_exchanges
from tests.models import KINDS, WITH_COUNT, WITH_LOCKS, Model, check_board, made, state_of
from tests.rankings import HUGE, O, R, S, drawn_rankings, left_order

NO_ENTRIES = [-1, -4, 4, 28, HUGE, -HUGE, True, False, None, "0", 0.0, [0], (0,), {}, object()]
NO_NUMBERS = [True, False, None, "1", 1.0, [1], (1,), {}, object()]


class Classes(unittest.TestCase):

    def test_subclasses(self):
        self.assertEqual(Board.__bases__, (object,))
        for kind in KINDS:
            self.assertTrue(issubclass(kind, Board))
            self.assertTrue(issubclass(LockedCountingBoard, kind))
        self.assertFalse(issubclass(CountingBoard, LockedBoard))
        self.assertFalse(issubclass(LockedBoard, CountingBoard))

    def test_instances(self):
        of_kind = {Board: (Board,), LockedBoard: (Board, LockedBoard), CountingBoard: (Board, CountingBoard),
                   LockedCountingBoard: KINDS}
        for kind in KINDS:
            for board in (made(kind, 3, S, [1]), made(kind, 3, S, [1]).twin()):
                self.assertIs(type(board), kind)
                self.assertEqual(tuple(one for one in KINDS if isinstance(board, one)), of_kind[kind])

    def test_defined_where_they_are_listed(self):
        self.assertEqual({kind.__module__ for kind in KINDS}, {"leadboard.boards"})

    def test_exchanges_only_of_counting_boards(self):
        self.assertEqual([hasattr(made(kind, 3, S), "exchanges") for kind in KINDS], [False, False, True, True])

    def test_described(self):
        for many in (0, 1, 3, 4):
            locked = [3, 0, 2, 1][:many]
            rows = [made(kind, 3, R, locked).described() for kind in KINDS]
            both = ["entries 4", "lead 3"]
            self.assertEqual(rows, [both, both + [f"locked {many}"], both + ["exchanges 0"],
                                    both + [f"locked {many}", "exchanges 0"]])
        self.assertEqual(Board(HUGE, [7] * 28).described(), ["entries 28", "lead 1" + "0" * 30])
        self.assertEqual(LockedBoard(1, [7] * 28, list(range(28))).described()[2], "locked 28")

    def test_described_with_a_lead_of_very_many_digits(self):
        board = CountingBoard(10 ** 5000, [1, 2])
        self.assertEqual(board.described(), ["entries 2", "lead 1" + "0" * 5000, "exchanges 0"])

    def test_described_tells_what_is_now(self):
        board = LockedCountingBoard(3, S, [0])
        board.set_score(3, 20)
        self.assertEqual(board.described(), ["entries 4", "lead 3", "locked 1", "exchanges 3"])
        board.undo()
        self.assertEqual(board.described(), ["entries 4", "lead 3", "locked 1", "exchanges 0"])

    def test_described_is_a_new_list(self):
        for kind in KINDS:
            board = made(kind, 3, S, [1])
            first, second = board.described(), board.described()
            self.assertEqual((type(first), first), (list, second))
            self.assertEqual({type(word) for word in first}, {str})
            self.assertIsNot(first, second)
            first.clear()
            self.assertEqual(board.described(), second)


class Locked(unittest.TestCase):

    def check_locked(self, board, entry):
        before = state_of(board)
        calls = [lambda: board.lift(entry), lambda: board.tried((entry, 1))]
        for number in [0, 7, -HUGE, board.scores[entry]] + NO_NUMBERS:
            calls += [lambda number=number: board.set_score(entry, number),
                      lambda number=number: board.add_points(entry, number)]
        for call in calls:
            with self.assertRaises(errors.BoardError) as caught:
                call()
            self.assertIs(type(caught.exception), errors.LockedError)
            self.assertEqual(state_of(board), before)

    def check_free(self, board, entry):
        length = len(board)
        self.assertEqual(board.set_score(entry, 50), board.place_of(entry))
        self.assertEqual(board.add_points(entry, -45), board.place_of(entry))
        self.assertEqual(board.lift(entry), board.place_of(entry))
        self.assertEqual((board.scores[entry], len(board)), (5, length + 3))
        for number in NO_NUMBERS:
            for call in (board.set_score, board.add_points):
                with self.assertRaises(errors.InvalidNumberError):
                    call(entry, number)

    def test_none_some_and_all_in_any_sequence(self):
        for kind in WITH_LOCKS:
            for many in range(5):
                for locked in itertools.permutations(range(4), many):
                    board = kind(3, S, list(locked))
                    for entry in range(4):
                        if entry in locked:
                            self.check_locked(board, entry)
                        else:
                            self.check_free(board, entry)
                    self.assertEqual([board.scores[entry] for entry in locked], [S[entry] for entry in locked])
                    self.assertEqual(board.described()[2], f"locked {many}")

    def test_entries_that_are_not_there_come_first(self):
        for kind, locked in itertools.product(KINDS, ([], [1], [0, 1, 2, 3])):
            board = made(kind, 3, S, locked)
            for entry, number in itertools.product(NO_ENTRIES, [3] + NO_NUMBERS):
                for call in (lambda: board.set_score(entry, number), lambda: board.add_points(entry, number),
                             lambda: board.lift(entry), lambda: board.place_of(entry)):
                    with self.assertRaises(errors.BoardError) as caught:
                        call()
                    self.assertIs(type(caught.exception), errors.InvalidEntryError)

    def test_others_pass_locked_ones(self):
        for kind in WITH_LOCKS:
            board, model = kind(3, S, [0, 1, 2]), Model(3, S)
            for name, arguments in (("set_score", (3, 20)), ("add_points", (3, -40)), ("lift", (3,)), ("undo", ())):
                self.assertEqual(getattr(board, name)(*arguments), getattr(model, name)(*arguments))
                check_board(self, board, model, [0, 1, 2])
        self.assertEqual(LockedBoard(1, S, [0, 1, 2, 3]).order, [3, 2, 1, 0])

    def test_locked_entries_have_places(self):
        board = LockedBoard(3, S, [0, 1, 2, 3])
        self.assertEqual([board.place_of(entry) for entry in range(4)], O)
        self.assertEqual((board.order, board.tried(), len(board)), (O, O, 0))

    def test_the_list_may_be_changed_afterwards(self):
        for kind in WITH_LOCKS:
            locked = [2, 0]
            board = kind(3, S, locked)
            self.assertEqual(locked, [2, 0])
            locked.remove(2)
            locked.append(3)
            self.check_locked(board, 2)
            self.check_free(board, 3)
            self.assertEqual((locked, board.described()[2]), ([0, 3], "locked 2"))

    def test_wrong_locks(self):
        wrong = [(0, 1), (), None, True, 0, 2, "01", "", {}, {0: 1}, {0}, 1.5, object(), [0, 0], [1, 2, 1], [4], [-1],
                 [0, 4], [0, 1, 2, 3, 4], [0, 1, 2, 3, 0], [HUGE], [0] * 400, [[0]], [[]], [(0,)]]
        wrong += [[item] for item in NO_ENTRIES] + [[2, item, 3] for item in NO_ENTRIES]
        for kind in WITH_LOCKS:
            for locked in wrong:
                for call in (lambda: kind(3, S, locked), lambda: kind(lead=3, scores=S, locked=locked)):
                    with self.assertRaises(errors.BoardError) as caught:
                        call()
                    self.assertIs(type(caught.exception), errors.InvalidLocksError, locked)

    def test_locks_of_other_many_entries(self):
        for kind in WITH_LOCKS:
            for many, entry in ((1, 1), (1, -1), (2, 2), (28, 28)):
                with self.assertRaises(errors.InvalidLocksError):
                    kind(3, [7] * many, [entry])
            self.assertEqual(kind(3, [7] * 28, list(range(27, -1, -1))).described()[2], "locked 28")

    def test_wrong_arguments_in_their_order(self):
        wrong = {"lead": (0, -1, True, None, "3"), "scores": (tuple(S), [], [1] * 29, [True, 1, 2, 3], None),
                 "locked": ((0,), [0, 0], [4], [True], None)}
        kinds = {"lead": errors.InvalidLeadError, "scores": errors.InvalidScoresError,
                 "locked": errors.InvalidLocksError}
        for kind in KINDS:
            names = tuple(wrong) if kind in WITH_LOCKS else ("lead", "scores")
            for many in range(1, len(names) + 1):
                for several in itertools.combinations(names, many):
                    for values in itertools.product(*[wrong[name] for name in several]):
                        right = {"lead": 3, "scores": S, "locked": [0]}
                        arguments = {name: right[name] for name in names}
                        arguments.update(zip(several, values))
                        for call in (lambda: kind(**arguments), lambda: kind(*arguments.values())):
                            with self.assertRaises(errors.BoardError) as caught:
                                call()
                            self.assertIs(type(caught.exception), kinds[several[0]], arguments)


class Counting(unittest.TestCase):

    def test_the_exchanges_at_first_are_not_counted(self):
        for kind in WITH_COUNT:
            for lead, scores, _ in drawn_rankings(221, 50, 1, 28):
                board = made(kind, lead, scores)
                self.assertEqual((board.exchanges, type(board.exchanges)), (0, int))
            self.assertEqual(made(kind, 1, list(range(28))).exchanges, 0)

    def test_a_call_adds_the_exchanges_of_its_walk(self):
        draw = random.Random(222)
        for lead, scores, _ in drawn_rankings(223, 60, 1, 12):
            for kind in WITH_COUNT:
                board, sum_up = made(kind, lead, scores), 0
                for _ in range(6):
                    entry, score, order = draw.randrange(len(scores)), draw.randint(-20, 20), board.order
                    board.set_score(entry, score)
                    sum_up += count_exchanges(lead, board.scores, order)
                    self.assertEqual(board.exchanges, sum_up)

    def test_a_lift_is_counted_in_both_parts(self):
        for kind in WITH_COUNT:
            board = made(kind, 3, S)
            # 3 passes the other three and stays ahead of them: it is close to 2 and leads 1 and 0.
            self.assertEqual([board.lift(3), board.exchanges, board.order], [0, 3, [3, 0, 1, 2]])
            # 0 passes 3 and falls back behind it, but not behind 1, which is close.
            self.assertEqual([board.lift(0), board.order, board.exchanges], [1, [3, 0, 1, 2], 5])
            self.assertEqual([board.undo(), board.exchanges, board.undo(), board.exchanges], [None, 3, None, 0])

    def test_a_lift_of_an_entry_that_others_lead(self):
        board = CountingBoard(2, S)
        self.assertEqual(board.order, [3, 2, 1, 0])
        self.assertEqual([board.lift(0), board.exchanges, board.order], [3, 6, [3, 2, 1, 0]])
        self.assertEqual([board.lift(3), board.exchanges], [0, 6])

    def test_all_lifts_of_small_boards_against_really_raising(self):
        for lead in (1, 2, 3, 4):
            for scores in itertools.product(range(4), repeat=3):
                for entry, more in itertools.product(range(3), (0, 1, 99)):
                    board, model = CountingBoard(lead, list(scores)), Model(lead, list(scores))
                    board.lift(entry)
                    model.lift(entry, more)
                    self.assertEqual(board.exchanges, model.states[-1][2])

    def test_undo_takes_them_back(self):
        board = LockedCountingBoard(3, S, [])
        board.set_score(3, 20)
        board.set_score(0, 40)
        board.add_points(1, 0)
        self.assertEqual(board.exchanges, 4)
        told = []
        while len(board) > 0:
            board.undo()
            told.append(board.exchanges)
        self.assertEqual(told, [4, 3, 0])

    def test_tried_and_errors_are_not_counted(self):
        board = LockedCountingBoard(3, S, [0])
        board.tried((3, 50), (1, 80))
        for call in (lambda: board.lift(0), lambda: board.set_score(1, None), lambda: board.undo()):
            with self.assertRaises(errors.BoardError):
                call()
        self.assertEqual(board.exchanges, 0)

    def test_two_boards_count_by_themselves(self):
        first, second = CountingBoard(3, S), CountingBoard(3, S)
        first.set_score(3, 20)
        self.assertEqual((first.exchanges, second.exchanges), (3, 0))

    def test_28_entries(self):
        board = CountingBoard(1, list(range(28)))
        self.assertEqual(board.order, left_order(1, list(range(28)), list(range(28))))
        self.assertEqual([board.set_score(0, 99), board.exchanges, board.set_score(0, -1), board.exchanges],
                         [0, 27, 27, 54])
        self.assertEqual([board.lift(13), board.exchanges], [14, 82])


if __name__ == "__main__":
    unittest.main()
