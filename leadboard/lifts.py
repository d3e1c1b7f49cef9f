"""Lifts: what they do to settled orders, the fewest that lead to a goal, and lists of them that do the same."""

from leadboard.checks import are_lifts, check_entry, check_lead, check_lifts, check_scores, check_settled, is_order_of
from leadboard.closeness import are_close, close_to, ranked
from leadboard.exchanges import settled, wrong_places_of


def lifted(lead, scores, order, entry):
    """The order behind a lift of an entry."""
    check_start(lead, scores, order)
    check_entry(scores, entry)
    return behind_lift(lead, scores, order, entry)


def after_lifts(lead, scores, order, lifts):
    """The order behind lifts, one after the other."""
    check_start(lead, scores, order)
    check_lifts(scores, lifts)
    return behind_lifts(lead, scores, order, lifts)


def must_lift(lead, scores, order, goal):
    """The ascending list of the entries that must be lifted on each way from one order to another one."""
    return sorted(way_to(lead, scores, order, goal))


def is_lift_plan(lead, scores, order, goal, value):
    """Whether any value is lifts that lead from one order to another one, as few as possible."""
    way = way_to(lead, scores, order, goal)
    if not are_lifts(len(scores), value) or len(value) != len(way):
        return False
    return behind_lifts(lead, scores, order, value) == goal


def lift_plan(lead, scores, order, goal):
    """The least of the shortest lists of lifts that lead from one order to another one."""
    return least_arranged(lead, scores, way_to(lead, scores, order, goal))


def short_lifts(lead, scores, lifts):
    """The least of the shortest lists of lifts that do the same."""
    check_lead(lead)
    check_scores(scores)
    check_lifts(scores, lifts)
    return shortened(lead, scores, lifts)


def same_lifts(lead, scores, lifts, other_lifts):
    """Whether two lists of lifts lead each settled order to the same one."""
    check_two_lifts(lead, scores, lifts, other_lifts)
    return shortened(lead, scores, lifts) == shortened(lead, scores, other_lifts)


def parting_order(lead, scores, lifts, other_lifts):
    """A settled order that two lists of lifts lead to different ones, None if there is none."""
    check_two_lifts(lead, scores, lifts, other_lifts)
    # Lists that differ do it at a close pair: both turn it, each its own way, or one of them leaves it as it is.
    # So one of the orders with an entry above all that are close to it shows the difference.
    for entry in range(len(scores)):
        start = behind_lift(lead, scores, ranked(scores), entry)
        if do_part(lead, scores, start, lifts, other_lifts):
            return start
    return None


def is_parting(lead, scores, lifts, other_lifts, value):
    """Whether any value is a settled order that two lists of lifts lead to different ones."""
    check_two_lifts(lead, scores, lifts, other_lifts)
    if not is_order_of(len(scores), value) or wrong_places_of(lead, scores, value):
        return False
    return do_part(lead, scores, value, lifts, other_lifts)


def check_start(lead, scores, order):
    """Checks the three parameters with which the functions of orders begin here."""
    check_lead(lead)
    check_scores(scores)
    check_settled(lead, scores, order)


def check_two_lifts(lead, scores, lifts, other_lifts):
    """Checks the parameters of the functions that compare two lists of lifts."""
    check_lead(lead)
    check_scores(scores)
    check_lifts(scores, lifts)
    check_lifts(scores, other_lifts)


def behind_lift(lead, scores, order, entry):
    """The order behind a lift, for checked arguments."""
    # The raised entry rises to the top. The order that is left in the end depends on that of the close pairs
    # alone, so the other entries need not be settled in between.
    return settled(lead, scores, [entry] + [other for other in order if other != entry])


def behind_lifts(lead, scores, order, lifts):
    """The order behind lifts as a new list, for checked arguments."""
    left = list(order)
    for entry in lifts:
        left = behind_lift(lead, scores, left, entry)
    return left


def way_to(lead, scores, order, goal):
    """The entries that must be lifted from one order to another one, from the bottom of the goal up."""
    check_start(lead, scores, order)
    check_settled(lead, scores, goal)
    way = []
    for at in reversed(range(len(goal))):
        entry = goal[at]
        below = [other for other in goal[at + 1:] if are_close(lead, scores, entry, other)]
        # Entries further down are decided already: a lifted one must be passed again.
        if any([other in way or order.index(other) < order.index(entry) for other in below]):
            way.append(entry)
    return way


def shortened(lead, scores, lifts):
    """The least of the shortest lists of lifts that do the same, for checked arguments."""
    last = [entry for at, entry in enumerate(lifts) if entry not in lifts[at + 1:]]
    seen = [entry for at, entry in enumerate(last) if not is_hidden(lead, scores, entry, last[at + 1:])]
    return least_arranged(lead, scores, seen)


def is_hidden(lead, scores, entry, later):
    """Whether all entries that are close to an entry are lifted later."""
    return all([other in later for other in close_to(lead, scores, entry)])


def least_arranged(lead, scores, lifts):
    """The least list of the same different entries in which close ones are lifted one after the other as before."""
    waiting = list(lifts)
    told = []
    while waiting:
        free = [entry for at, entry in enumerate(waiting) if is_free(lead, scores, entry, waiting[:at])]
        told.append(min(free))
        waiting.remove(min(free))
    return told


def is_free(lead, scores, entry, earlier):
    """Whether no entry that is lifted earlier is close to an entry."""
    return not any([are_close(lead, scores, entry, other) for other in earlier])


def do_part(lead, scores, order, lifts, other_lifts):
    """Whether two lists of lifts lead an order to different ones."""
    return behind_lifts(lead, scores, order, lifts) != behind_lifts(lead, scores, order, other_lifts)
