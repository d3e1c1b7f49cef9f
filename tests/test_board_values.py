"""[21]: what a board tells without being changed: tried changes, twins and equality."""

import itertools
import random
import unittest

from leadboard import errors
from leadboard.boards import Board, CountingBoard, LockedBoard, LockedCountingBoard
from tests.models import KINDS, OTHERS, WITH_LOCKS, Model, check_board, drawn_call, made, state_of, worked_boards
from tests.rankings import HUGE, O, R, S

MOST = 10 ** 31 - 1  # the greatest integer of 31 digits


class Tried(unittest.TestCase):

    def check(self, board, changes):
        """Checks tried changes against one set_score after the other on a twin."""
        before, twin = state_of(board), board.twin()
        for entry, score in changes:
            twin.set_score(entry, score)
        told = board.tried(*changes)
        self.assertEqual(told, twin.order, changes)
        self.assertIs(type(told), list)
        self.assertEqual(state_of(board), before)

    def check_wrong(self, board, changes, kind):
        before = state_of(board)
        with self.assertRaises(errors.BoardError) as caught:
            board.tried(*changes)
        self.assertIs(type(caught.exception), kind, changes)
        self.assertEqual(state_of(board), before)

    def test_0_to_20_changes(self):
        draw = random.Random(231)
        for board, _, locked in worked_boards(232, 80):
            free = [entry for entry in range(len(board.scores)) if entry not in locked]
            for count in (0, 1, 2, 5, 20, draw.randrange(21)):
                self.check(board, [(draw.choice(free), draw.randint(-15, 15)) for _ in range(count)])

    def test_against_the_model(self):
        draw = random.Random(233)
        for board, model, locked in worked_boards(234, 80):
            free = [entry for entry in range(len(board.scores)) if entry not in locked]
            changes = [(draw.choice(free), draw.randint(-15, 15)) for _ in range(6)]
            for change in changes:
                model.set_score(*change)
            self.assertEqual(board.tried(*changes), model.states[-1][1])

    def test_28_entries_and_scores_of_31_digits(self):
        for kind in KINDS:
            board = made(kind, HUGE, [0] * 28)
            self.check(board, [(entry, MOST - entry * HUGE) for entry in range(27, 7, -1)])
            self.check(board, [(27, MOST), (27, -MOST)])

    def test_each_is_settled_by_itself(self):
        board = Board(3, S)
        self.assertEqual(board.tried((3, 99), (3, 10)), [3, 0, 1, 2])
        self.assertEqual(board.tried((3, 10)), O)
        self.assertEqual(board.tried((0, -99), (0, 4)), [1, 2, 3, 0])
        self.assertEqual(board.tried(), O)

    def test_the_board_is_the_same_afterwards(self):
        board = CountingBoard(3, S)
        board.set_score(0, 30)
        board.lift(3)
        before = state_of(board)
        for changes in ([], [(0, 1)], [(1, 60), (2, -60)], [(3, 10)] * 20):
            self.check(board, changes)
        self.assertEqual(state_of(board), before)
        board.undo()
        self.assertEqual((board.scores, board.order, len(board)), ([30, 6, 8, 10], O, 1))

    def test_answers_are_new_lists(self):
        for kind in KINDS:
            board = made(kind, 3, S)
            for changes in ([], [(2, 8)], [(3, 40)]):
                first, second = board.tried(*changes), board.tried(*changes)
                self.assertIsNot(first, second)
                first.clear()
                self.assertEqual(board.tried(*changes), second)
            self.assertEqual(board.order, O)

    def test_any_values(self):
        wrong = OTHERS + [(), (0,), (0, 1, 2), [0, 1], ((0, 1),), [(0, 1)], "01", {0: 1}, [[0, 1]]]
        wrong += [(entry, 1) for entry in [-1, -4, 4, 28, HUGE] + [one for one in OTHERS if one not in (0, 3)]]
        wrong += [(entry, 1) for entry in (True, False)]
        wrong += [(2, score) for score in OTHERS if type(score) is not int]
        for kind in KINDS:
            board = made(kind, 3, S, [1])
            board.set_score(0, 9)
            for change in wrong:
                self.check_wrong(board, [change], errors.InvalidChangeError)
                self.check_wrong(board, [(0, 50), change], errors.InvalidChangeError)
                self.check_wrong(board, [(0, 50)] * 19 + [change], errors.InvalidChangeError)
                self.check_wrong(board, [change, (1, 1), (0, 50)], errors.InvalidChangeError)

    def test_tuples_of_a_derived_class(self):
        class Change(tuple):
            pass

        self.check_wrong(Board(3, S), [Change((0, 1))], errors.InvalidChangeError)

    def test_locked_entries(self):
        for kind in WITH_LOCKS:
            board = kind(3, S, [1, 2])
            for changes in ([(1, 6)], [(2, HUGE)], [(0, 1), (1, 6)], [(0, 1), (1, 6), (0, None)], [(2, 0), "x"]):
                self.check_wrong(board, changes, errors.LockedError)
            self.check(board, [(0, 99), (3, -99)])

    def test_the_first_wrong_one_decides(self):
        for kind in WITH_LOCKS:
            board = kind(3, S, [1])
            right, locked, other = (0, 20), (1, 6), (4, 1)
            for row in itertools.product((right, locked, other, None, (1, True)), repeat=3):
                bad = [change for change in row if change != right]
                if not bad:
                    self.check(board, row)
                else:
                    kind_of_error = errors.LockedError if bad[0] == locked else errors.InvalidChangeError
                    self.check_wrong(board, row, kind_of_error)

    def test_a_locked_entry_with_what_is_no_score(self):
        for kind in WITH_LOCKS:
            for change in ((1, True), (1, None), (1, "6"), (1,), (1, 6, 7), [1, 6], (True, 6)):
                self.check_wrong(kind(3, S, [1]), [change], errors.InvalidChangeError)


class Twin(unittest.TestCase):

    def test_it_tells_the_same(self):
        for board, model, locked in worked_boards(235, 80):
            before = state_of(board)
            twin = board.twin()
            self.assertIsNot(twin, board)
            self.assertEqual((state_of(twin), state_of(board)), (before, before))
            self.assertTrue(twin == board)
            check_board(self, twin, model, locked)

    def test_independent_both_ways(self):
        draw = random.Random(236)
        for board, model, locked in worked_boards(237, 60):
            free = [entry for entry in range(len(board.scores)) if entry not in locked]
            pairs = [(board, model), (board.twin(), self.copied(model))]
            for _ in range(20):
                one, its_model = draw.choice(pairs)
                name, arguments = drawn_call(draw, one.scores, free, 12)
                if name != "undo" or len(one) > 0:
                    self.assertEqual(getattr(one, name)(*arguments), getattr(its_model, name)(*arguments))
                for each, its_model in pairs:
                    check_board(self, each, its_model, locked)

    def copied(self, model):
        other = Model(model.lead, model.states[0][0])
        other.states = list(model.states)
        return other

    def test_the_same_calls_to_undo(self):
        for board, model, locked in worked_boards(238, 60):
            twin, told = board.twin(), []
            while len(board) > 0:
                self.assertIsNone(twin.undo())
                told.append(state_of(twin))
                board.undo()
                self.assertEqual(told[-1], state_of(board))
            with self.assertRaises(errors.EmptyHistoryError):
                twin.undo()

    def test_undoing_one_leaves_the_other(self):
        for kind in KINDS:
            board = made(kind, 3, S)
            board.set_score(3, 20)
            before, twin = state_of(board), board.twin()
            twin.undo()
            self.assertEqual(state_of(board), before)
            self.assertEqual((twin.scores, twin.order, len(twin)), (S, O, 0))
            twin.lift(1)
            board.undo()
            self.assertEqual((twin.order, len(twin), board.order, len(board)), ([1, 2, 3, 0], 1, O, 0))

    def test_a_twin_of_a_twin(self):
        for board, model, locked in worked_boards(239, 40):
            twin = board.twin().twin()
            check_board(self, twin, model, locked)
            self.assertIs(type(twin), type(board))

    def test_locked_entries(self):
        for kind in WITH_LOCKS:
            twin = kind(3, S, [1, 3]).twin()
            for entry in (1, 3):
                with self.assertRaises(errors.LockedError):
                    twin.set_score(entry, 5)
            self.assertEqual([twin.set_score(entry, 5) for entry in (0, 2)], [0, 3])

    def test_an_order_that_the_scores_alone_do_not_tell(self):
        for kind in KINDS:
            board = made(kind, 3, S)
            board.lift(3)
            board.lift(2)
            self.assertEqual(board.twin().order, [2, 3, 0, 1])

    def test_exchanges(self):
        board = LockedCountingBoard(3, S, [1])
        board.set_score(3, 20)
        twin = board.twin()
        self.assertEqual(twin.exchanges, 3)
        twin.set_score(0, 40)
        self.assertEqual((twin.exchanges, board.exchanges), (4, 3))


class Equal(unittest.TestCase):

    def check(self, first, second, are_equal):
        for one, other in ((first, second), (second, first)):
            self.assertIs(one == other, are_equal)
            self.assertIs(one != other, not are_equal)

    def test_the_same_kind(self):
        for kind in KINDS:
            board = made(kind, 3, S, [1])
            self.check(board, board, True)
            self.check(board, made(kind, 3, S, [1]), True)
            self.check(board, made(kind, 4, S, [1]), False)
            self.check(board, made(kind, 3, R, [1]), False)
            self.check(board, made(kind, 3, S + [0], [1]), False)
            self.check(board, made(kind, 3, S[:3], [1]), False)

    def test_other_orders_of_equal_scores(self):
        for kind in KINDS:
            board, other = made(kind, 3, S), made(kind, 3, S)
            other.lift(3)
            self.check(board, other, False)
            board.lift(3)
            self.check(board, other, True)
            other.undo()
            self.check(board, other, False)

    def test_other_scores_with_equal_orders(self):
        for kind in KINDS:
            board, other = made(kind, 3, S), made(kind, 3, S)
            other.add_points(0, 1)
            self.assertEqual(board.order, other.order)
            self.check(board, other, False)
            other.add_points(0, -1)
            self.check(board, other, True)

    def test_calls_and_exchanges_are_not_compared(self):
        for kind in KINDS:
            board, other = made(kind, 3, R), made(kind, 3, R)
            board.set_score(2, 40)
            board.set_score(2, 8)
            board.lift(1)
            other.lift(2)
            other.lift(1)
            self.assertEqual((board.order, board.scores), (other.order, other.scores))
            self.assertNotEqual(len(board), len(other))
            self.check(board, other, True)

    def test_locked_entries_are_not_compared(self):
        for kind in WITH_LOCKS:
            for first, second in itertools.product(([], [0], [1, 2], [2, 1], [0, 1, 2, 3]), repeat=2):
                self.check(kind(3, S, first), kind(3, S, second), True)

    def test_other_kinds(self):
        boards = [made(kind, 3, S) for kind in KINDS]
        for first, second in itertools.product(range(4), repeat=2):
            self.check(boards[first], boards[second], first == second)
            self.check(boards[first], boards[second].twin(), first == second)

    def test_classes_below(self):
        class Other(LockedBoard):
            pass

        self.check(Other(3, S, []), LockedBoard(3, S, []), False)
        self.check(Other(3, S, []), Other(3, S, [1]), True)

    def test_other_values(self):
        for kind in KINDS:
            board = made(kind, 3, S)
            for value in OTHERS + [S, O, (3, S, O), [3, S, O], kind, board.described()]:
                self.check(board, value, False)
            self.assertNotIn(board, OTHERS)

    def test_values_that_would_be_equal_to_all(self):
        class Same:
            def __eq__(self, other):
                return True

        self.assertIs(Board(3, S) == Same(), False)

    def test_length_and_truth(self):
        board = Board(3, S)
        self.assertEqual((len(board), bool(board)), (0, False))
        board.lift(0)
        self.assertEqual((len(board), bool(board), type(len(board))), (1, True, int))
        self.check(board, Board(3, S), True)


class Properties(unittest.TestCase):

    def test_lists_are_new(self):
        for board, model, locked in worked_boards(240, 40):
            for name in ("scores", "order"):
                first, second = getattr(board, name), getattr(board, name)
                self.assertIs(type(first), list)
                self.assertIsNot(first, second)
                first.clear()
                second.append(99)
            check_board(self, board, model, locked)

    def test_changed_arguments_change_nothing(self):
        for kind in KINDS:
            scores = list(R)
            board = made(kind, 3, scores)
            self.assertEqual(scores, R)
            before = state_of(board)
            scores[0] = 99
            scores.append(5)
            self.assertEqual(state_of(board), before)

    def test_lists_of_past_states_do_not_change(self):
        board = Board(3, S)
        told = [board.scores, board.order]
        board.set_score(3, 30)
        self.assertEqual(told, [S, O])
        for one in (board.scores, board.order, told[0], told[1]):
            one.reverse()
        board.undo()
        self.assertEqual((board.scores, board.order), (S, O))

    def test_two_boards_know_nothing_of_each_other(self):
        for kind in KINDS:
            first, second = made(kind, 3, S, [0]), made(kind, 3, S, [0])
            before = state_of(second)
            first.set_score(3, 90)
            first.lift(2)
            self.assertEqual(state_of(second), before)
            self.assertEqual(state_of(made(kind, 3, S, [0])), before)


if __name__ == "__main__":
    unittest.main()
