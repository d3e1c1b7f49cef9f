"""Close entries: the chains and the groups that they make, and what stands above what because of them."""

from leadboard.checks import check_entry, check_lead, check_place, check_ranking, check_scores, is_index, is_list
from leadboard.closeness import are_close, ranked
from leadboard.exchanges import settled


def is_close(lead, scores, entry, other):
    """Whether two entries are close. An entry is close to itself."""
    check_lead(lead)
    check_scores(scores)
    check_entry(scores, entry)
    check_entry(scores, other)
    return are_close(lead, scores, entry, other)


def is_chain(lead, scores, order, value):
    """Whether any value is a chain in an order."""
    check_ranking(lead, scores, order)
    if not is_list(value) or len(value) < 2 or not all([is_index(item, len(scores)) for item in value]):
        return False
    return all([is_link(lead, scores, order, upper, lower) for upper, lower in zip(value, value[1:])])


def is_link(lead, scores, order, upper, lower):
    """Whether an entry stands below another one and is close to it."""
    return order.index(upper) < order.index(lower) and are_close(lead, scores, upper, lower)


def chain_between(lead, scores, order, upper, lower):
    """A chain from one entry to another one with as few entries as possible, None if there is none."""
    check_ranking(lead, scores, order)
    check_entry(scores, upper)
    check_entry(scores, lower)
    if upper == lower:
        return None
    # From the top down, so that the shortest way to each entry ahead in a chain is known before it is used.
    ways = {upper: [upper]}
    for entry in order[order.index(upper) + 1:]:
        held = [ways[other] for other in ways if are_close(lead, scores, other, entry)]
        if held:
            ways[entry] = min(held, key=len) + [entry]
    return ways.get(lower)


def holders_of(lead, scores, order, entry):
    """The ascending list of the entries from which a chain leads to an entry."""
    check_ranking(lead, scores, order)
    check_entry(scores, entry)
    reached = [entry]
    for upper in reversed(order[:order.index(entry)]):
        if any([are_close(lead, scores, upper, other) for other in reached]):
            reached.append(upper)
    return sorted(reached[1:])


def is_above(lead, scores, order, entry, other):
    """Whether an entry stands above another one in the order that is left."""
    check_ranking(lead, scores, order)
    check_entry(scores, entry)
    check_entry(scores, other)
    left = settled(lead, scores, order)
    return left.index(entry) < left.index(other)


def groups_of(lead, scores):
    """The list of the groups, from the greatest scores down, each as the ascending list of its entries."""
    check_lead(lead)
    check_scores(scores)
    groups = []
    for entry in ranked(scores):
        if groups and are_close(lead, scores, groups[-1][-1], entry):
            groups[-1].append(entry)
        else:
            groups.append([entry])
    return [sorted(group) for group in groups]


def place_span(lead, scores, entry):
    """The tuple of the first and the last place that an entry can have in settled orders."""
    groups = groups_of(lead, scores)
    check_entry(scores, entry)
    own = [entry in group for group in groups].index(True)
    first = sum([len(group) for group in groups[:own]])
    return first, first + len(groups[own]) - 1


def order_with(lead, scores, entry, place):
    """A settled order in which an entry has a place, None if there is none."""
    first, last = place_span(lead, scores, entry)
    check_place(scores, place)
    if not first <= place <= last:
        return None
    left = ranked(scores)
    now = left.index(entry)
    low, high = min(now, place), max(now, place)
    # Neighbours by score within a group are close, so any stretch of it may stand upside down.
    return left[:low] + left[low:high + 1][::-1] + left[high + 1:]
