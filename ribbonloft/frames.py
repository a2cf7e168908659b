"""Frames: their ribbons, their brackets, and how they are turned."""

from ribbonloft.checks import check_pegs, is_peg_count
from ribbonloft.errors import BadFrame, BadPegs
from ribbonloft.pairings import is_pairing, is_uncrossed, tie


def is_frame(frame):
    pegs = pegs_of(frame)
    if len(frame) != 2 * pegs or not is_peg_count(pegs) or not is_pairing(frame):
        return False
    alone = [peg for peg, other in enumerate(frame) if peg == other]
    return not alone and is_uncrossed(in_round(frame))


def check_frame(frame):
    if not is_frame(frame):
        raise BadFrame("this tuple is no frame")


def check_two_frames(one, other):
    check_frame(one)
    check_frame(other)
    if len(one) != len(other):
        raise BadPegs("the frames have unlike numbers of pegs")


def pegs_of(frame):
    return len(frame) // 2


def plain(pegs):
    check_pegs(pegs)
    return tuple(list(range(pegs, 2 * pegs)) + list(range(pegs)))


def over(frame):
    check_frame(frame)
    # The plain frame names for each peg the one beneath or above it.
    return moved(frame, plain(pegs_of(frame)))


def mirrored(frame):
    check_frame(frame)
    pegs = pegs_of(frame)
    return moved(frame, list(range(pegs))[::-1] + list(range(pegs, 2 * pegs))[::-1])


def carried(frame, by):
    check_frame(frame)
    pegs = pegs_of(frame)
    later = [(round_place(pegs, peg) + by) % (2 * pegs) for peg in range(2 * pegs)]
    return moved(frame, [round_place(pegs, place) for place in later])


def through(frame):
    check_frame(frame)
    pegs = pegs_of(frame)
    return len([other for other in frame[:pegs] if other >= pegs])


def ties(frame):
    check_frame(frame)
    return [(peg, other) for peg, other in enumerate(frame) if peg < other]


def brackets(frame):
    check_frame(frame)
    return "".join(["(" if other > place else ")" for place, other in enumerate(in_round(frame))])


def from_brackets(text):
    if not is_brackets(text):
        raise BadFrame("these are the brackets of no frame")
    row = [0] * len(text)
    waiting = []
    for place, sign in enumerate(text):
        if sign == "(":
            waiting.append(place)
        else:
            tie(row, place, waiting.pop())
    # A row of places becomes one of pegs by the same exchange as the other way round.
    return in_round(row)


def is_brackets(text):
    if not is_peg_count(len(text) // 2):
        return False
    depth = 0
    for sign in text:
        if sign not in ("(", ")"):
            return False
        depth += 1 if sign == "(" else -1
        if depth < 0:
            return False
    return depth == 0


def round_place(pegs, peg):
    """The place of a peg in the round, and likewise the peg at a place in the round."""
    return peg if peg < pegs else 3 * pegs - 1 - peg


def in_round(frame):
    """The frame by places in the round: at each place the place of the other end."""
    pegs = pegs_of(frame)
    return moved(frame, [round_place(pegs, peg) for peg in range(2 * pegs)])


def moved(frame, to):
    """The frame whose ribbons end at to[peg] where they ended at peg."""
    ends = [0] * len(frame)
    for peg, other in enumerate(frame):
        ends[to[peg]] = to[other]
    return tuple(ends)
