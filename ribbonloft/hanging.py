"""Frames that hang under one another, and frames that are closed."""

from ribbonloft.checks import check_pegs
from ribbonloft.errors import BadPegs
from ribbonloft.frames import check_frame, check_two_frames, pegs_of, plain
from ribbonloft.pairings import rings_of, run


def hung(upper, lower):
    check_two_frames(upper, lower)
    return put_under(upper, lower)


def stacked(pegs, frames):
    check_pegs(pegs)
    for frame in frames:
        check_frame(frame)
    for frame in frames:
        if pegs_of(frame) != pegs:
            raise BadPegs(f"a frame in the row has not {pegs} pegs")
    whole = plain(pegs)
    rings = 0
    for frame in frames:
        whole, fallen = put_under(whole, frame)
        rings += fallen
    return whole, rings


def closed(frame):
    check_frame(frame)
    # What joins the rails outside runs just as the ribbons of the plain frame do.
    return rings_of(plain(pegs_of(frame)), frame)


def put_under(upper, lower):
    """The pair (frame, rings), without the refusals.

    The pegs of the lower frame are numbered on behind those of the upper one here.
    """
    pegs = pegs_of(upper)
    ribbons = list(upper) + [2 * pegs + peg for peg in lower]
    joints = joints_between(pegs)
    outer = list(range(pegs)) + list(range(3 * pegs, 4 * pegs))
    ends = [run(joints, ribbons, peg)[-1] for peg in outer]
    frame = tuple([end if end < pegs else end - 2 * pegs for end in ends])
    return frame, rings_of(joints, ribbons)


def joints_between(pegs):
    """For each peg of two frames the one that it is of the other frame, or itself where it is outer."""
    top = list(range(pegs))
    above = list(range(pegs, 2 * pegs))
    beneath = list(range(2 * pegs, 3 * pegs))
    bottom = list(range(3 * pegs, 4 * pegs))
    return top + beneath + above + bottom
