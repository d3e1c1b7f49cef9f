"""Rankings for the tests, and plain answers that are worked out straight from the document's definitions."""

import itertools
import random

S, R, O = [4, 6, 8, 10], [4, 9, 8, 10], [0, 1, 2, 3]
HUGE = 10 ** 30  # a number of 31 digits


def wrong_at(lead, scores, order, place):
    return scores[order[place + 1]] - scores[order[place]] >= lead


def all_wrong(lead, scores, order):
    return [place for place in range(len(order) - 1) if wrong_at(lead, scores, order, place)]


def swapped(order, place):
    return order[:place] + [order[place + 1], order[place]] + order[place + 2:]


def walked(lead, scores, order, choose):
    """A complete walk by the places that `choose` takes: (walk, orders from the first to the last, pairs)."""
    walk, orders, pairs = [], [list(order)], []
    while all_wrong(lead, scores, orders[-1]):
        now = orders[-1]
        place = choose(all_wrong(lead, scores, now))
        walk.append(place)
        pairs.append((now[place], now[place + 1]))
        orders.append(swapped(now, place))
    return walk, orders, pairs


def left_order(lead, scores, order):
    return walked(lead, scores, order, min)[1][-1]


def first_fault(lead, scores, order, walk):
    """The index of the first item that is not a wrong place at its turn, None if there is none."""
    now = list(order)
    for index, place in enumerate(walk):
        if place not in all_wrong(lead, scores, now):
            return index
        now = swapped(now, place)
    return None


def chain_leads(lead, scores, order, upper, lower):
    """Whether a chain in the order leads from one entry down to another one."""
    reached = {upper}
    for at, entry in enumerate(order):
        above = order[:at]
        if entry != upper and any(abs(scores[entry] - scores[one]) < lead for one in above if one in reached):
            reached.add(entry)
    return lower != upper and lower in reached


def small_rankings():
    """All rankings of up to three entries with scores from -1 to 3 and leads from 1 to 6."""
    for many in (1, 2, 3):
        for scores in itertools.product(range(-1, 4), repeat=many):
            for order in itertools.permutations(range(many)):
                for lead in range(1, 7):
                    yield lead, list(scores), list(order)


def drawn_rankings(seed, count, least=1, most=7):
    """Rankings that are drawn from a seed, the same ones each time."""
    draw = random.Random(seed)
    for _ in range(count):
        many = draw.randint(least, most)
        spread = draw.choice((3, 8, 20))
        scores = [draw.randint(-spread, spread) for _ in range(many)]
        order = draw.sample(range(many), many)
        yield draw.randint(1, draw.choice((2, 5, spread))), scores, order
