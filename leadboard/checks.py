"""Tells whether arguments are what they must be, and raises the error that belongs to each parameter."""

from leadboard.errors import InvalidEntryError, InvalidLeadError, InvalidLiftsError, InvalidNumberError
from leadboard.errors import InvalidOrderError, InvalidScoresError, NotSettledError
from leadboard.exchanges import wrong_places_of

MOST_ENTRIES = 28
MOST_LIFTS = 100


def is_integer(value):
    """Whether a value is an integer. Python counts True and False as such, the document does not."""
    return isinstance(value, int) and not isinstance(value, bool)


def is_index(value, many):
    """Whether a value is an integer from 0 to less than many."""
    return is_integer(value) and 0 <= value < many


def is_list(value):
    """Whether a value is exactly a list: a class derived from it could behave otherwise."""
    return type(value) == list


def are_scores(value):
    """Whether any value is a list of 1 to 28 integers."""
    if not is_list(value) or not 1 <= len(value) <= MOST_ENTRIES:
        return False
    return all([is_integer(item) for item in value])


def is_order_of(many, value):
    """Whether any value is a list of the entries from 0 to less than many, each once."""
    if not is_list(value) or not all([is_integer(item) for item in value]):
        return False
    return sorted(value) == list(range(many))


def are_lifts(many, value):
    """Whether any value is a list of 0 to 100 of the entries from 0 to less than many."""
    if not is_list(value) or len(value) > MOST_LIFTS:
        return False
    return all([is_index(item, many) for item in value])


def check_lead(lead):
    if not is_integer(lead) or lead < 1:
        raise InvalidLeadError("a lead is an integer from 1 on")


def check_scores(scores):
    if not are_scores(scores):
        raise InvalidScoresError("scores are a list of 1 to 28 integers")


def check_order(scores, order):
    if not is_order_of(len(scores), order):
        raise InvalidOrderError("an order is a list of all entries, each once")


def check_settled(lead, scores, order):
    """Checks an order that must also be settled."""
    check_order(scores, order)
    wrong = wrong_places_of(lead, scores, order)
    if wrong:
        raise NotSettledError(wrong[0])


def check_entry(scores, entry):
    if not is_index(entry, len(scores)):
        raise InvalidEntryError("an entry is an integer from 0 to less than the number of the scores")


def check_place(scores, place):
    if not is_index(place, len(scores)):
        raise InvalidNumberError("a place is an integer from 0 to less than the number of the scores")


def check_lifts(scores, lifts):
    if not are_lifts(len(scores), lifts):
        raise InvalidLiftsError("lifts are a list of 0 to 100 entries")


def check_score(score):
    if not is_integer(score):
        raise InvalidNumberError("a score is an integer")


def check_ranking(lead, scores, order):
    """Checks the three parameters with which most functions begin, in their order."""
    check_lead(lead)
    check_scores(scores)
    check_order(scores, order)
