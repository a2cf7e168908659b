"""Seams, lengths, and the shortest rows of hooks that come to a frame."""

from ribbonloft.frames import check_frame, pegs_of, ties
from ribbonloft.pairings import tie


def seams(frame):
    pegs = pegs_of(frame)
    spans = [sorted([peg % pegs, other % pegs]) for peg, other in ties(frame)]
    return [len([left for left, right in spans if left <= seam < right]) for seam in range(pegs - 1)]


def length(frame):
    return sum(seams(frame)) // 2


def shortest_row(frame):
    check_frame(frame)
    rest = list(frame)
    row = []
    beginnings = neighbours_tied(rest, 0)
    # The rows of what is left all have one length, so the least beginning begins the first of them.
    while beginnings:
        row.append(beginnings[0])
        take_off(rest, beginnings[0])
        beginnings = neighbours_tied(rest, 0)
    return row


def firsts(frame):
    check_frame(frame)
    return neighbours_tied(frame, 0)


def lasts(frame):
    check_frame(frame)
    return neighbours_tied(frame, pegs_of(frame))


def neighbours_tied(frame, start):
    """The hooks whose two pegs are tied on the rail that is numbered from start on.

    Just these can be taken off that rail such that a frame is left that is shorter by one.
    """
    return [number for number in range(pegs_of(frame) - 1) if frame[start + number] == start + number + 1]


def take_off(frame, number):
    """Takes the hook off the top of a frame, a list that becomes what hangs under it.

    What passes the seam next beneath the hook's own tie is cut and led up to the two pegs:
    any ribbon farther down couldn't come up without crossing this one.
    """
    left = next_across(frame, number)
    right = frame[left]
    tie(frame, left, number)
    tie(frame, right, number + 1)


def next_across(frame, seam):
    """The left end of the ribbon that passes the seam next beneath the uppermost one."""
    pegs = pegs_of(frame)
    # Ribbons don't cross, so they pass the seam in the order of their left ends around the left side.
    around = list(range(seam))[::-1] + list(range(pegs, pegs + seam + 1))
    return [peg for peg in around if frame[peg] % pegs > seam][0]
