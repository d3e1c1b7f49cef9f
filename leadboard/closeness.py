"""Closeness of entries and the order by scores, for arguments that are checked already."""


def are_close(lead, scores, entry, other):
    """Whether the scores of two entries differ by less than the lead."""
    return abs(scores[entry] - scores[other]) < lead


def close_to(lead, scores, entry):
    """The ascending list of the other entries that are close to an entry."""
    return [other for other in range(len(scores)) if other != entry and are_close(lead, scores, entry, other)]


def ranked(scores):
    """All entries from the greatest score down: an order that is settled for each lead."""
    return sorted(range(len(scores)), key=lambda entry: -scores[entry])
