"""Exchanges of neighbours, for arguments that are checked already."""


def is_wrong(lead, scores, order, place):
    """Whether the entry directly below a place leads the one of the place by the lead."""
    return scores[order[place + 1]] - scores[order[place]] >= lead


def wrong_places_of(lead, scores, order):
    """The ascending list of the wrong places."""
    return [place for place in range(len(order) - 1) if is_wrong(lead, scores, order, place)]


def exchanged(order, place):
    """A new order in which the entry of a place and the one directly below have changed places."""
    left = list(order)
    left[place], left[place + 1] = order[place + 1], order[place]
    return left


def turned(order, left):
    """The pairs that stand otherwise in the order that is left, as tuples (upper entry at first, other one)."""
    places = [left.index(entry) for entry in order]
    return [(order[upper], order[lower]) for lower in range(len(order)) for upper in range(lower)
            if places[lower] < places[upper]]


def rescored(scores, entry, score):
    """New scores, in which an entry has another one."""
    return scores[:entry] + [score] + scores[entry + 1:]


def settled(lead, scores, order):
    """The order that is left, as a new list."""
    # Any sequence of exchanges leaves the same order, so each entry may rise at its turn,
    # through entries above that are settled among themselves already.
    left = []
    for entry in order:
        place = len(left)
        while place > 0 and scores[entry] - scores[left[place - 1]] >= lead:
            place -= 1
        left.insert(place, entry)
    return left
