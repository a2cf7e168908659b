"""Halves of frames: one rail with its ties and the pegs that go through."""

from ribbonloft.checks import is_peg_count
from ribbonloft.errors import BadHalf, BadPegs
from ribbonloft.frames import check_frame, over, pegs_of
from ribbonloft.pairings import is_pairing, is_uncrossed, rings_of, run, tie


def is_half(half):
    return is_peg_count(len(half)) and is_pairing(half) and is_uncrossed(half)


def check_half(half):
    if not is_half(half):
        raise BadHalf("this tuple is no good half")


def check_two_halves(one, other):
    check_half(one)
    check_half(other)
    if len(one) != len(other):
        raise BadPegs("the halves have unlike numbers of pegs")


def upper(frame):
    check_frame(frame)
    pegs = pegs_of(frame)
    return tuple([other if other < pegs else peg for peg, other in enumerate(frame[:pegs])])


def lower(frame):
    return upper(over(frame))


def through_of(half):
    check_half(half)
    return len(going(half))


def joined(one, other):
    check_two_halves(one, other)
    leaving = going(one)
    coming = going(other)
    if len(leaving) != len(coming):
        raise BadHalf("unlike numbers of pegs go through")
    pegs = len(one)
    frame = list(one) + [pegs + peg for peg in other]
    # Ribbons that go through don't cross, so they keep their order from the left.
    for above, beneath in zip(leaving, coming):
        tie(frame, above, pegs + beneath)
    return tuple(frame)


def meeting(one, other):
    check_two_halves(one, other)
    ends = [run(one, other, peg)[-1] for peg in going(one)]
    # A ribbon that turns back ends at a peg which the other half ties.
    both = [end for end in ends if other[end] == end]
    return rings_of(one, other), len(both)


def going(half):
    """The pegs that go through, from the left to the right."""
    return [peg for peg, other in enumerate(half) if peg == other]
