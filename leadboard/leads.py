"""Leads: which of them leave which order."""

from leadboard.checks import check_order, check_scores
from leadboard.exchanges import settled


def least_lead(scores, order):
    """The least lead for which an order is settled."""
    check_scores(scores)
    check_order(scores, order)
    gaps = [scores[lower] - scores[upper] for upper, lower in zip(order, order[1:])]
    return max([0] + gaps) + 1


def orders_by_lead(scores, order):
    """The tuples (lead, order that is left), for the lead 1 and each one that leaves another order than 1 less."""
    check_scores(scores)
    check_order(scores, order)
    told = []
    for lead in leads_of_change(scores):
        left = settled(lead, scores, order)
        if not told or left != told[-1][1]:
            told.append((lead, left))
    return told


def leads_of_change(scores):
    """The lead 1 and each lead with which more entries are close than with the lead less 1, ascending."""
    # Each score differs from itself by 0, which gives the lead 1.
    return sorted({abs(score - other) + 1 for score in scores for other in scores})


def leads_to(scores, order, goal):
    """The tuple of the least and the greatest lead with which an order leads to another one, None if none does."""
    told = orders_by_lead(scores, order)
    check_order(scores, goal)
    lefts = [left for lead, left in told]
    if goal not in lefts:
        return None
    # A greater lead turns fewer pairs, so no order is left again once another one has been.
    at = lefts.index(goal)
    greatest = told[at + 1][0] - 1 if at + 1 < len(told) else None
    return told[at][0], greatest
