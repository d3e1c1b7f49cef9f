"""The errors that the package raises."""


class BoardError(ValueError):
    """The base class of all errors of the package."""


class InvalidLeadError(BoardError):
    """A lead is no integer from 1 on."""


class InvalidScoresError(BoardError):
    """Scores are no list of 1 to 28 integers, or entries would be too many or too few."""


class InvalidOrderError(BoardError):
    """An order is no list of all entries, each once."""


class InvalidEntryError(BoardError):
    """An entry is no place in the list of the scores."""


class InvalidNumberError(BoardError):
    """A place, a score, points or an index is no integer, or is out of its range."""


class InvalidLiftsError(BoardError):
    """Lifts are no list of 0 to 100 entries."""


class InvalidChangeError(BoardError):
    """A change is no tuple of an entry and an integer."""


class InvalidLocksError(BoardError):
    """Locked entries are no list of different entries."""


class InvalidFormatError(BoardError):
    """A text is no ranking in words."""


class LockedError(BoardError):
    """The score of a locked entry stays."""


class EmptyHistoryError(BoardError):
    """There is no call to undo."""


class InvalidWalkError(BoardError):
    """A walk goes wrong at an index, or is no list (None)."""

    def __init__(self, index):
        self.index = index


class NotSettledError(BoardError):
    """An order is not settled at a place."""

    def __init__(self, place):
        self.place = place
