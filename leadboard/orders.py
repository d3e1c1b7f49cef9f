"""Scores and orders, and the orders that are left when neighbours change places."""

from leadboard.checks import MOST_ENTRIES
from leadboard.checks import are_scores, check_entry, check_ranking, check_score, check_scores, is_order_of
from leadboard.errors import InvalidScoresError
from leadboard.exchanges import exchanged, rescored, settled, wrong_places_of


def is_scores(value):
    """Whether any value is a list of 1 to 28 integers."""
    return are_scores(value)


def is_order(scores, value):
    """Whether any value is a list of all entries of the scores, each once."""
    check_scores(scores)
    return is_order_of(len(scores), value)


def is_settled(lead, scores, order):
    """Whether no place of an order is wrong."""
    return wrong_places(lead, scores, order) == []


def wrong_places(lead, scores, order):
    """The ascending list of the places whose entry the one directly below leads by the lead."""
    check_ranking(lead, scores, order)
    return wrong_places_of(lead, scores, order)


def settled_order(lead, scores, order):
    """The order that is left behind exchanges until no place is wrong."""
    check_ranking(lead, scores, order)
    return settled(lead, scores, order)


def walk_orders(lead, scores, order):
    """Yields the order at first and behind each exchange, always at the least wrong place."""
    check_ranking(lead, scores, order)
    # The caller's lists may change between two results, and so may the yielded ones.
    points = list(scores)
    left = list(order)
    yield list(left)
    wrong = wrong_places_of(lead, points, left)
    while wrong:
        left = exchanged(left, wrong[0])
        yield list(left)
        wrong = wrong_places_of(lead, points, left)


def with_score(lead, scores, order, entry, score):
    """The order that is left if an entry gets another score."""
    check_ranking(lead, scores, order)
    check_entry(scores, entry)
    check_score(score)
    return settled(lead, rescored(scores, entry, score), order)


def with_entry(lead, scores, order, score):
    """The order that is left if a new entry comes, at the bottom at first."""
    check_ranking(lead, scores, order)
    check_score(score)
    if len(scores) == MOST_ENTRIES:
        raise InvalidScoresError("there is no room for one more entry")
    return settled(lead, scores + [score], order + [len(scores)])


def without_entry(lead, scores, order, entry):
    """The scores and the order that is left if an entry goes, as a tuple."""
    check_ranking(lead, scores, order)
    check_entry(scores, entry)
    if len(scores) == 1:
        raise InvalidScoresError("the only entry cannot go")
    others = scores[:entry] + scores[entry + 1:]
    # The entries behind the one that goes move up by one in the list of the scores.
    renumbered = [other - 1 if other > entry else other for other in order if other != entry]
    return others, settled(lead, others, renumbered)
