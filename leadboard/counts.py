"""Counts and numbers the settled orders of scores, in list order."""

from leadboard.checks import check_entry, check_index, check_lead, check_scores, check_settled
from leadboard.closeness import are_close, ranked


def count_settled(lead, scores):
    """The number of the settled orders."""
    check_lead(lead)
    check_scores(scores)
    many = 1
    for _, close in rising(lead, scores, list(range(len(scores)))):
        many = many * (1 + close)
    return many


def count_with_top(lead, scores, entry):
    """The number of the settled orders with an entry on top."""
    check_lead(lead)
    check_scores(scores)
    check_entry(scores, entry)
    return count_topped(rising(lead, scores, list(range(len(scores)))), entry)


def nth_settled(lead, scores, index):
    """The settled order with an index, in list order."""
    check_index(count_settled(lead, scores), index)
    order = []
    passed = 0
    while len(order) < len(scores):
        for entry, many in ways_on(lead, scores, order):
            if index < passed + many:
                order = order + [entry]
                break
            passed = passed + many
    return order


def settled_rank(lead, scores, order):
    """The index of a settled order, in list order."""
    check_lead(lead)
    check_scores(scores)
    check_settled(lead, scores, order)
    rank = 0
    for place, top in enumerate(order):
        ways = ways_on(lead, scores, order[:place])
        rank = rank + sum([many for entry, many in ways if entry < top])
    return rank


def rising(lead, scores, entries):
    """A row of entries from the least score on, each with the number of those ahead that are close, as tuples."""
    row = [entry for entry in reversed(ranked(scores)) if entry in entries]
    return [(entry, len([other for other in row[:at] if are_close(lead, scores, entry, other)]))
            for at, entry in enumerate(row)]


def count_topped(row, top):
    """The number of the settled orders of the entries of such a row with one of them on top."""
    # The orders grow by an entry at a time, from the least score on. A new entry can stand on top or directly below
    # each one that is close to it; behind the one that is to be on top, it can no longer stand there itself.
    many = 1
    placed = False
    for entry, close in row:
        if entry == top:
            placed = True
        elif placed:
            many = many * close
        else:
            many = many * (1 + close)
    return many


def ways_on(lead, scores, begun):
    """The entries that can stand next in a settled order, ascending, each with the number of the orders, as tuples."""
    rest = [entry for entry in range(len(scores)) if entry not in begun]
    row = rising(lead, scores, rest)
    able = [entry for entry in rest if not begun or scores[entry] - scores[begun[-1]] < lead]
    return [(entry, count_topped(row, entry)) for entry in able]
