"""Boards for the tests, and plain models of them: lists of states, settled by exchanges."""

import random

from leadboard.boards import Board, CountingBoard, LockedBoard, LockedCountingBoard
from tests.rankings import left_order, walked

KINDS = (Board, LockedBoard, CountingBoard, LockedCountingBoard)
WITH_LOCKS = (LockedBoard, LockedCountingBoard)
WITH_COUNT = (CountingBoard, LockedCountingBoard)
OTHERS = [None, True, False, 0, 3, 1.5, "", "board", b"3", (), (3,), [], [3], {}, {3: 3}, {3}, object(), len, int]


def made(kind, lead, scores, locked=()):
    """A board of a kind. Only kinds with locks get the locked entries."""
    return kind(lead, scores, list(locked)) if kind in WITH_LOCKS else kind(lead, scores)


class Model:
    """What a board must be: all its states, each the scores, the order, and the exchanges of all calls so far."""

    def __init__(self, lead, scores):
        self.lead = lead
        self.states = [(list(scores), left_order(lead, scores, list(range(len(scores)))), 0)]

    def set_score(self, entry, score):
        return self.settle_with(entry, [score])

    def add_points(self, entry, points):
        return self.settle_with(entry, [self.states[-1][0][entry] + points])

    def lift(self, entry, more=0):
        """A lift by really raising the score, to more than is needed where asked for, and giving it back."""
        scores = self.states[-1][0]
        return self.settle_with(entry, [max(scores) + self.lead + more, scores[entry]])

    def undo(self):
        self.states.pop()

    def settle_with(self, entry, row):
        scores, order, exchanges = self.states[-1]
        for score in row:
            scores = scores[:entry] + [score] + scores[entry + 1:]
            walk, orders, _ = walked(self.lead, scores, order, min)
            order, exchanges = orders[-1], exchanges + len(walk)
        self.states.append((scores, order, exchanges))
        return order.index(entry)


def state_of(board):
    """All that a board tells of itself."""
    places = [board.place_of(entry) for entry in range(len(board.scores))]
    counted = [board.exchanges] if type(board) in WITH_COUNT else []
    return [type(board), board.lead, board.scores, board.order, places, len(board), counted, board.described()]


def check_board(test, board, model, locked=()):
    """Checks all that a board tells against its model."""
    scores, order, exchanges = model.states[-1]
    test.assertEqual((board.lead, board.scores, board.order), (model.lead, scores, order))
    test.assertEqual([board.place_of(entry) for entry in range(len(scores))],
                     [order.index(entry) for entry in range(len(scores))])
    test.assertEqual(len(board), len(model.states) - 1)
    told = [f"entries {len(scores)}", f"lead {model.lead}"]
    if type(board) in WITH_LOCKS:
        told.append(f"locked {len(locked)}")
    if type(board) in WITH_COUNT:
        test.assertEqual(board.exchanges, exchanges)
        told.append(f"exchanges {exchanges}")
    test.assertEqual(board.described(), told)


def drawn_call(draw, scores, free, spread):
    """The name and the arguments of a call that changes a board, for an entry that is free."""
    name = draw.choice(("set_score", "add_points", "lift", "undo"))
    if name == "undo":
        return name, ()
    entry = draw.choice(free)
    if name == "lift":
        return name, (entry,)
    return name, (entry, draw.choice((draw.randint(-spread, spread), 0, scores[entry])))


def drawn_board(draw, kind, most=7):
    """A board of a kind, its model and its locked entries, drawn."""
    many = draw.randint(1, most)
    spread = draw.choice((3, 8, 20))
    scores = [draw.randint(-spread, spread) for _ in range(many)]
    lead = draw.randint(1, draw.choice((2, 5, spread)))
    locked = draw.sample(range(many), draw.randrange(many)) if kind in WITH_LOCKS else []
    return made(kind, lead, scores, locked), Model(lead, scores), locked


def worked_boards(seed, count, most=7):
    """Boards of all kinds, each behind some drawn calls, with their models and their locked entries."""
    draw = random.Random(seed)
    for number in range(count):
        board, model, locked = drawn_board(draw, KINDS[number % 4], most)
        free = [entry for entry in range(len(board.scores)) if entry not in locked]
        for _ in range(draw.randrange(9)):
            name, arguments = drawn_call(draw, board.scores, free, 12)
            if name != "undo" or len(board) > 0:
                getattr(board, name)(*arguments)
                getattr(model, name)(*arguments)
        yield board, model, locked
