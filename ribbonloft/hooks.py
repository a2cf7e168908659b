"""Hooks, and what rows of them come to."""

from ribbonloft.checks import check_pegs, is_number
from ribbonloft.errors import BadHook
from ribbonloft.frames import pegs_of, plain
from ribbonloft.pairings import tie


def hook(pegs, number):
    return made(pegs, [number])[0]


def made(pegs, row):
    check_row(pegs, row)
    frame = list(plain(pegs))
    rings = 0
    for number in row:
        rings += hang_hook(frame, number)
    return tuple(frame), rings


def hang_hook(frame, number):
    """Hangs a hook under a frame, a list that becomes what they come to; tells how many rings fall."""
    left = pegs_of(frame) + number
    right = left + 1
    if frame[left] == right:
        return 1
    # All ribbons but the two that come to the hook run on straight.
    tie(frame, frame[left], frame[right])
    tie(frame, left, right)
    return 0


def is_hook(pegs, number):
    return is_number(number) and 0 <= number <= pegs - 2


def check_row(pegs, row):
    check_pegs(pegs)
    for number in row:
        if not is_hook(pegs, number):
            raise BadHook(f"{number} is no hook of {pegs} pegs")
