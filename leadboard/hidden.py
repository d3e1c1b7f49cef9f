"""Boards whose lead and scores are hidden, and how questions find them."""

from leadboard.checks import check_changes, check_ranking
from leadboard.exchanges import rescored, settled

# More than a lead and a difference of two scores together.
REACH = 10 ** 40
# With so many points an entry leads all others by the lead, even if REACH is taken off again.
HIGH = 5 * 10 ** 40


class HiddenBoard:
    """A lead, scores and an order, of which only questions tell."""

    def __init__(self, lead, scores, order):
        check_ranking(lead, scores, order)
        self._lead = lead
        self._scores = list(scores)
        self._order = settled(lead, scores, order)
        self._questions = 0

    @property
    def entries(self):
        """The number of the entries."""
        return len(self._scores)

    @property
    def questions(self):
        """How many times ask has returned."""
        return self._questions

    def ask(self, changes):
        """The order behind changes of the hidden board: tuples (entry, points that are added to its score)."""
        check_changes(self._scores, changes)
        scores = self._scores
        order = self._order
        for entry, points in changes:
            scores = rescored(scores, entry, scores[entry] + points)
            order = settled(self._lead, scores, order)
        self._questions = self._questions + 1
        return list(order)


def find(hidden):
    """The lead (None for a single entry) and the scores, each less that of entry 0, as a tuple."""
    if hidden.entries == 1:
        return None, [0]
    below = [least_points(hidden, 0, entry) for entry in range(1, hidden.entries)]
    # The difference of the two scores stands in both directions, once on each side; twice the lead is left.
    lead = (below[0] + least_points(hidden, 1, 0)) // 2
    return lead, [0] + [lead - points for points in below]


def least_points(hidden, upper, lower):
    """The least points with which an entry passes another one: the lead, and by how much the other one is ahead."""
    few, enough = points_around(hidden, upper, lower)
    while enough - few > 1:
        middle = (few + enough) // 2
        if does_pass(hidden, upper, lower, middle):
            enough = middle
        else:
            few = middle
    return enough


def points_around(hidden, upper, lower):
    """Points with which an entry does not pass another one, and points with which it does, as a tuple."""
    passes = does_pass(hidden, upper, lower, 0)
    sign = -1 if passes else 1
    # The reach grows by squares, so small leads and scores need few questions and great ones hardly any more.
    reach = 16
    while reach < REACH and does_pass(hidden, upper, lower, sign * reach) == passes:
        reach = min(reach * reach, REACH)
    return (-reach, 0) if passes else (0, reach)


def does_pass(hidden, upper, lower, points):
    """Whether an entry passes another one directly above it with some points, high above all others."""
    return hidden.ask([(upper, HIGH), (lower, HIGH + points)])[0] == lower
