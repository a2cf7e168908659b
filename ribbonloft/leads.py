"""Which frames lead to which, from below, from above and from both sides."""

from ribbonloft.frames import check_two_frames, over, pegs_of, through, ties
from ribbonloft.halves import going, joined, lower, upper
from ribbonloft.hanging import hung
from ribbonloft.numbers import half_number
from ribbonloft.pairings import tie


def below(frame, goal):
    check_two_frames(frame, goal)
    pegs = pegs_of(frame)
    missed = [(peg, other) for peg, other in ties(frame) if other < pegs and goal[peg] != other]
    if missed:
        return ("bar",) + missed[0]
    # A frame above its own turned one only ties its upper pegs and lets all else through,
    # so a goal that has these ties already stays as it is when both hang above it.
    return "frame", hung(over(frame), goal)[0]


def above(frame, goal):
    # Turned over, what is above is below, and the lower pegs are the upper ones.
    told = below(over(frame), over(goal))
    if told[0] == "frame":
        return "frame", over(told[1])
    pegs = pegs_of(frame)
    return "bar", pegs + told[1], pegs + told[2]


def between(frame, goal):
    check_two_frames(frame, goal)
    many = through(goal)
    less = through(frame)
    if many > less:
        return "bar", many, less
    # This half has all ties of the frame's upper one and as many pegs that go through as the goal.
    meeting_half = narrowed(upper(frame), less - many)
    under = below(frame, joined(meeting_half, lower(goal)))[1]
    return "frames", joined(upper(goal), meeting_half), under


def family(frame):
    return half_number(upper(frame)), half_number(lower(frame))


def itself(frame):
    return hung(frame, frame)[0] == frame


def narrowed(half, fewer):
    """The half with so many fewer pegs that go through: the first ones are tied in neighbouring pairs."""
    row = list(half)
    loose = going(half)
    for at in range(0, fewer, 2):
        tie(row, loose[at], loose[at + 1])
    return tuple(row)
