"""Rankings for the tests, and plain answers that are worked out straight from the document's definitions."""

import itertools
import random

S, R, O = [4, 6, 8, 10], [4, 9, 8, 10], [0, 1, 2, 3]
HUGE = 10 ** 30  # a number of 31 digits


def wrong_at(lead, scores, order, place):
    return scores[order[place + 1]] - scores[order[place]] >= lead


def all_wrong(lead, scores, order):
    return [place for place in range(len(order) - 1) if wrong_at(lead, scores, order, place)]


def swapped(order, place):
    return order[:place] + [order[place + 1], order[place]] + order[place + 2:]


def walked(lead, scores, order, choose):
    """A complete walk by the places that `choose` takes: (walk, orders from the first to the last, pairs)."""
    walk, orders, pairs = [], [list(order)], []
    while all_wrong(lead, scores, orders[-1]):
        now = orders[-1]
        place = choose(all_wrong(lead, scores, now))
        walk.append(place)
        pairs.append((now[place], now[place + 1]))
        orders.append(swapped(now, place))
    return walk, orders, pairs


def left_order(lead, scores, order):
    return walked(lead, scores, order, min)[1][-1]


def first_fault(lead, scores, order, walk):
    """The index of the first item that is not a wrong place at its turn, None if there is none."""
    now = list(order)
    for index, place in enumerate(walk):
        if place not in all_wrong(lead, scores, now):
            return index
        now = swapped(now, place)
    return None


def near(lead, scores, entry, other):
    return -lead < scores[entry] - scores[other] < lead


def all_chains(lead, scores, order, upper):
    """All chains in the order that begin with an entry, as tuples."""
    found, ends = [], [(upper,)]
    while ends:
        begun = ends.pop()
        for entry in order[order.index(begun[-1]) + 1:]:
            if near(lead, scores, begun[-1], entry):
                found.append(begun + (entry,))
                ends.append(begun + (entry,))
    return found


def settled_orders(lead, scores):
    """All settled orders, ascending."""
    every = [list(order) for order in itertools.permutations(range(len(scores)))]
    return [order for order in every if not all_wrong(lead, scores, order)]


def really_lifted(lead, scores, order, entry):
    """The order behind a lift: the score is raised, the order settled, the score given back, the order settled."""
    raised = list(scores)
    raised[entry] = max(scores) + lead
    return left_order(lead, scores, left_order(lead, raised, order))


def lift_table(lead, scores):
    """For each settled order (a tuple) and each entry the order behind the lift (a tuple)."""
    return {tuple(order): [tuple(really_lifted(lead, scores, order, entry)) for entry in range(len(scores))]
            for order in settled_orders(lead, scores)}


def kind_of(lead, scores):
    """Which entries are close, and which of two others is the greater one: it decides all that is ever left."""
    return tuple(0 if near(lead, scores, *pair) else 1 if scores[pair[0]] > scores[pair[1]] else -1
                 for pair in itertools.combinations(range(len(scores)), 2))


def kinds_of_rankings(many):
    """One lead and one list of scores, as a pair, for each kind of rankings of so many entries."""
    kinds = {}
    for lead in range(1, many + 1):
        for scores in itertools.product(range(2 * many), repeat=many):
            kinds.setdefault(kind_of(lead, scores), (lead, list(scores)))
    return list(kinds.values())


def mixed_kinds_of_rankings(many, seed):
    """The same, but for each kind only one of those that are alike but for the numbers of their entries."""
    draw, kinds = random.Random(seed), {}
    for lead in range(1, many + 1):
        for scores in itertools.combinations_with_replacement(range(2 * many), many):
            kinds.setdefault(kind_of(lead, scores), (lead, draw.sample(scores, many)))
    return list(kinds.values())


def chain_leads(lead, scores, order, upper, lower):
    """Whether a chain in the order leads from one entry down to another one."""
    reached = {upper}
    for at, entry in enumerate(order):
        above = order[:at]
        if entry != upper and any(abs(scores[entry] - scores[one]) < lead for one in above if one in reached):
            reached.add(entry)
    return lower != upper and lower in reached


def small_rankings():
    """All rankings of up to three entries with scores from -1 to 3 and leads from 1 to 6."""
    for many in (1, 2, 3):
        for scores in itertools.product(range(-1, 4), repeat=many):
            for order in itertools.permutations(range(many)):
                for lead in range(1, 7):
                    yield lead, list(scores), list(order)


def drawn_rankings(seed, count, least=1, most=7):
    """Rankings that are drawn from a seed, the same ones each time."""
    draw = random.Random(seed)
    for _ in range(count):
        many = draw.randint(least, most)
        spread = draw.choice((3, 8, 20))
        scores = [draw.randint(-spread, spread) for _ in range(many)]
        order = draw.sample(range(many), many)
        yield draw.randint(1, draw.choice((2, 5, spread))), scores, order
