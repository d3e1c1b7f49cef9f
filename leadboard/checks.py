"""Tells whether arguments are what they must be, and raises the error that belongs to each parameter."""

from leadboard.errors import InvalidChangeError, InvalidEntryError, InvalidLeadError, InvalidLiftsError
from leadboard.errors import InvalidLocksError, InvalidNumberError, InvalidOrderError, InvalidScoresError
from leadboard.errors import NotSettledError
from leadboard.exchanges import wrong_places_of

MOST_ENTRIES = 28
MOST_LIFTS = 100
MOST_CHANGES = 20


def is_integer(value):
    """Whether a value is an integer. Python counts True and False as such, the document does not."""
    return isinstance(value, int) and not isinstance(value, bool)


def is_index(value, many):
    """Whether a value is an integer from 0 to less than many."""
    return is_integer(value) and 0 <= value < many


def is_list(value):
    """Whether a value is exactly a list: a class derived from it could behave otherwise."""
    return type(value) == list


def are_scores(value):
    """Whether any value is a list of 1 to 28 integers."""
    if not is_list(value) or not 1 <= len(value) <= MOST_ENTRIES:
        return False
    return all([is_integer(item) for item in value])


def is_order_of(many, value):
    """Whether any value is a list of the entries from 0 to less than many, each once."""
    if not is_list(value) or not all([is_integer(item) for item in value]):
        return False
    return sorted(value) == list(range(many))


def are_lifts(many, value):
    """Whether any value is a list of 0 to 100 of the entries from 0 to less than many."""
    if not is_list(value) or len(value) > MOST_LIFTS:
        return False
    return all([is_index(item, many) for item in value])


def is_change(many, value):
    """Whether any value is a tuple of one of the entries from 0 to less than many and an integer."""
    if type(value) != tuple or len(value) != 2:
        return False
    return is_index(value[0], many) and is_integer(value[1])


def check_lead(lead):
    if not is_integer(lead) or lead < 1:
        raise InvalidLeadError("a lead is an integer from 1 on")


def check_scores(scores):
    if not are_scores(scores):
        raise InvalidScoresError("scores are a list of 1 to 28 integers")


def check_order(scores, order):
    if not is_order_of(len(scores), order):
        raise InvalidOrderError("an order is a list of all entries, each once")


def check_settled(lead, scores, order):
    """Checks an order that must also be settled."""
    check_order(scores, order)
    wrong = wrong_places_of(lead, scores, order)
    if wrong:
        raise NotSettledError(wrong[0])


def check_entry(scores, entry):
    if not is_index(entry, len(scores)):
        raise InvalidEntryError("an entry is an integer from 0 to less than the number of the scores")


def check_place(scores, place):
    if not is_index(place, len(scores)):
        raise InvalidNumberError("a place is an integer from 0 to less than the number of the scores")


def check_lifts(scores, lifts):
    if not are_lifts(len(scores), lifts):
        raise InvalidLiftsError("lifts are a list of 0 to 100 entries")


def check_score(score):
    """Checks a score, or points that are added to one."""
    if not is_integer(score):
        raise InvalidNumberError("a score is an integer, and so are points")


def check_index(many, index):
    if not is_index(index, many):
        raise InvalidNumberError("an index is an integer from 0 to less than the number of what is counted")


def check_change(scores, change):
    if not is_change(len(scores), change):
        raise InvalidChangeError("a change is a tuple of an entry and an integer")


def check_changes(scores, changes):
    if not is_list(changes) or len(changes) > MOST_CHANGES:
        raise InvalidChangeError("changes are a list of 0 to 20 tuples")
    for change in changes:
        check_change(scores, change)


def check_locks(scores, locked):
    entries = is_list(locked) and all([is_index(item, len(scores)) for item in locked])
    if not entries or len(set(locked)) != len(locked):
        raise InvalidLocksError("locked entries are a list of different entries")


def check_ranking(lead, scores, order):
    """Checks the three parameters with which most functions begin, in their order."""
    check_lead(lead)
    check_scores(scores)
    check_order(scores, order)
