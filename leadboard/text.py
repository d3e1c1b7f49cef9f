"""Rankings as strings: in words, which can be read back, and as a table."""

from leadboard.checks import MOST_ENTRIES, check_order, check_ranking, check_scores, is_order_of
from leadboard.digits import written
from leadboard.errors import InvalidFormatError
from leadboard.exchanges import wrong_places_of

MOST_DIGITS = 31


def format_board(scores, order):
    """Scores and an order as words ENTRY:SCORE from the top, with single spaces between."""
    check_scores(scores)
    check_order(scores, order)
    return " ".join([f"{entry}:{written(scores[entry])}" for entry in order])


def parse_board(text):
    """The scores and the order of such a string, as a tuple."""
    if not isinstance(text, str):
        raise InvalidFormatError("a text is a string")
    pairs = [parse_word(word) for word in text.split(" ")]
    order = [entry for entry, _ in pairs]
    if len(order) > MOST_ENTRIES or not is_order_of(len(order), order):
        raise InvalidFormatError("each of up to 28 entries stands in a text once")
    return [score for _, score in sorted(pairs)], order


def table_of(lead, scores, order):
    """A string for each entry from the top, with a mark behind it if the place above is wrong."""
    check_ranking(lead, scores, order)
    wrong = wrong_places_of(lead, scores, order)
    marks = [" ^" if place - 1 in wrong else "" for place in range(len(order))]
    return [f"{place:>2}{entry:>4}{written(scores[entry]):>12}{marks[place]}" for place, entry in enumerate(order)]


def parse_word(word):
    """The entry and the score of a word, as a tuple."""
    entry, _, score = word.partition(":")
    if not is_number(entry) or not is_number(score.removeprefix("-")) or score == "-0":
        raise InvalidFormatError("a word is an entry, a colon and a score")
    return int(entry), int(score)


def is_number(word):
    """Whether a word is a number of at most 31 digits without a leading zero."""
    # Python counts digits of other scripts as such, too, so the word must also be plain ASCII.
    if not word.isascii() or not word.isdigit() or len(word) > MOST_DIGITS:
        return False
    return word == "0" or not word.startswith("0")
