"""Walks: lists of places at which exchanges are made, each of them wrong at its turn."""

from leadboard.checks import check_ranking, is_index, is_list
from leadboard.errors import InvalidWalkError
from leadboard.exchanges import exchanged, is_wrong, settled, turned, wrong_places_of


def is_walk(lead, scores, order, value):
    """Whether any value is a walk from an order."""
    try:
        order_after(lead, scores, order, value)
    except InvalidWalkError:
        return False
    return True


def order_after(lead, scores, order, walk):
    """The order behind the exchanges of a walk."""
    check_ranking(lead, scores, order)
    if not is_list(walk):
        raise InvalidWalkError(None)
    left = list(order)
    for index, place in enumerate(walk):
        if not is_index(place, len(left) - 1) or not is_wrong(lead, scores, left, place):
            raise InvalidWalkError(index)
        left = exchanged(left, place)
    return left


def is_complete(lead, scores, order, walk):
    """Whether a walk leaves a settled order."""
    left = order_after(lead, scores, order, walk)
    return wrong_places_of(lead, scores, left) == []


def count_exchanges(lead, scores, order):
    """The number of the exchanges of each complete walk."""
    # Each exchange turns another pair, and no pair is turned back.
    return len(turned_pairs(lead, scores, order))


def turned_pairs(lead, scores, order):
    """The ascending list of the pairs that complete walks turn, as tuples (upper entry, other one)."""
    check_ranking(lead, scores, order)
    return sorted(turned(order, settled(lead, scores, order)))
