"""What counts as a number, and as a number of pegs."""

from ribbonloft.errors import BadPegs

MOST_PEGS = 10


def is_number(value):
    # True and False are integers to Python, but no numbers to the document.
    return isinstance(value, int) and not isinstance(value, bool)


def is_peg_count(value):
    return is_number(value) and 1 <= value <= MOST_PEGS


def check_pegs(pegs):
    if not is_peg_count(pegs):
        raise BadPegs(f"a number of pegs is from 1 to {MOST_PEGS}")
