"""Live boards, changed call by call: plain ones, ones with locked entries, with a count of exchanges, and with both."""

from leadboard.checks import check_change, check_entry, check_lead, check_locks, check_score, check_scores
from leadboard.digits import written
from leadboard.errors import EmptyHistoryError, LockedError
from leadboard.exchanges import rescored, settled, turned


class Board:
    """Scores and an order that is settled behind each call."""

    MOST = 28

    def __init__(self, lead, scores):
        check_lead(lead)
        check_scores(scores)
        self._lead = lead
        # No list that is kept is ever changed: calls put new ones in their places, so past ones can stay in use.
        self._scores = list(scores)
        self._order = settled(lead, scores, list(range(len(scores))))
        # For each call that can be undone: the scores and the order ahead of it, and the number of its exchanges.
        self._calls = []

    def __len__(self):
        return len(self._calls)

    def __eq__(self, other):
        if not isinstance(other, Board) or not type(self) is type(other):
            return False
        return self._lead == other._lead and self._scores == other._scores and self._order == other._order

    @property
    def lead(self):
        return self._lead

    @property
    def scores(self):
        return list(self._scores)

    @property
    def order(self):
        return list(self._order)

    def set_score(self, entry, score):
        """Gives an entry another score and returns its place."""
        self._check_free(entry)
        check_score(score)
        return self._settle_with(entry, [score])

    def add_points(self, entry, points):
        """Adds points to the score of an entry and returns its place."""
        self._check_free(entry)
        check_score(points)
        return self._settle_with(entry, [self._scores[entry] + points])

    def lift(self, entry):
        """Lifts an entry and returns its place."""
        self._check_free(entry)
        return self._settle_with(entry, [max(self._scores) + self._lead, self._scores[entry]])

    def undo(self):
        """Reverts the last call that changed the board and is not reverted."""
        if not self._calls:
            raise EmptyHistoryError("there is no call to undo")
        self._scores, self._order, _ = self._calls.pop()

    def tried(self, *changes):
        """The order behind some more changes, tuples (entry, score). The board stays as it is."""
        scores = self._scores
        order = self._order
        for change in changes:
            check_change(scores, change)
            entry, score = change
            self._check_free(entry)
            scores = rescored(scores, entry, score)
            order = settled(self._lead, scores, order)
        return list(order)

    def place_of(self, entry):
        """The place of an entry."""
        check_entry(self._scores, entry)
        return self._order.index(entry)

    def twin(self):
        """An independent board of the same class in the same state, with the same calls to undo."""
        board = self._fresh()
        board._order = self._order
        board._calls = list(self._calls)
        return board

    def described(self):
        """A list of strings that tell what board it is."""
        return [f"entries {len(self._scores)}", f"lead {written(self._lead)}"]

    def _fresh(self):
        """A new board of the same class, with the same scores and locked entries."""
        return Board(self._lead, self._scores)

    def _is_locked(self, entry):
        """Whether the score of an entry must stay."""
        return False

    def _check_free(self, entry):
        check_entry(self._scores, entry)
        if self._is_locked(entry):
            raise LockedError("the score of a locked entry stays")

    def _settle_with(self, entry, row):
        """Gives an entry one score of a row after the other, settles each time, and returns its place."""
        scores = self._scores
        order = self._order
        exchanges = 0
        for score in row:
            scores = rescored(scores, entry, score)
            left = settled(self._lead, scores, order)
            exchanges = exchanges + len(turned(order, left))
            order = left
        self._calls.append((self._scores, self._order, exchanges))
        self._scores = scores
        self._order = order
        return order.index(entry)


class LockedBoard(Board):
    """A board with locked entries, whose scores stay."""

    def __init__(self, lead, scores, locked):
        Board.__init__(self, lead, scores)
        check_locks(scores, locked)
        self._locked = list(locked)

    def described(self):
        return super().described() + [f"locked {len(self._locked)}"]

    def _fresh(self):
        return LockedBoard(self._lead, self._scores, self._locked)

    def _is_locked(self, entry):
        return entry in self._locked


class CountingBoard(Board):
    """A board that tells how many exchanges its calls have made."""

    @property
    def exchanges(self):
        """The number of the exchanges of all calls that are not reverted."""
        return sum([call[2] for call in self._calls])

    def described(self):
        return super().described() + [f"exchanges {self.exchanges}"]

    def _fresh(self):
        return CountingBoard(self._lead, self._scores)


class LockedCountingBoard(CountingBoard, LockedBoard):
    """A board with locked entries that tells how many exchanges its calls have made."""

    def __init__(self, lead, scores, locked):
        LockedBoard.__init__(self, lead, scores, locked)

    def _fresh(self):
        return LockedCountingBoard(self._lead, self._scores, self._locked)
