"""Numbers in digits."""

# As many digits are written at once.
MANY = 64
PART = 10 ** 64


def written(number):
    """An integer as a string of digits, with a sign if it is less than 0."""
    # Scores may grow without end, but Python itself writes no integer of more than some thousand digits.
    digits = ""
    rest = abs(number)
    while rest >= PART:
        rest, part = divmod(rest, PART)
        digits = str(part).zfill(MANY) + digits
    sign = "-" if number < 0 else ""
    return sign + str(rest) + digits
