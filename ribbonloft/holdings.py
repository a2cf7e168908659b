"""What a loft has at one time, and what is asked of it."""

from ribbonloft.checks import is_number
from ribbonloft.errors import NoFrame, NoPlace, NoStack
from ribbonloft.frames import mirrored, over
from ribbonloft.hanging import stacked
from ribbonloft.hooks import hook

MOST_FRAMES = 12
MOST_STACKS = 8
MOST_ENTRIES = 24
LONGEST_NAME = 8


class Holding:
    """The number of pegs, the frames by names, and the stacks by names.

    A stack is a pair (fallen rings, tuple of entries). Neither a holding nor what it has is
    ever changed: a deed makes a new one, so that lofts can go back to the old one and share it.
    """

    def __init__(self, width, tied, piled):
        self.width = width
        self.tied = tied
        self.piled = piled


def with_frame(holding, name, frame):
    tied = dict(holding.tied)
    tied[name] = frame
    return Holding(holding.width, tied, holding.piled)


def without_frame(holding, name):
    tied = dict(holding.tied)
    del tied[name]
    return Holding(holding.width, tied, holding.piled)


def with_pile(holding, name, pile):
    piled = dict(holding.piled)
    piled[name] = pile
    return Holding(holding.width, holding.tied, piled)


def without_pile(holding, name):
    piled = dict(holding.piled)
    del piled[name]
    return Holding(holding.width, holding.tied, piled)


def is_name(word):
    if not isinstance(word, str) or not 1 <= len(word) <= LONGEST_NAME:
        return False
    return all(["a" <= sign <= "z" for sign in word])


def frame_named(holding, name):
    if name not in holding.tied:
        raise NoFrame(f"there is no frame {name}")
    return holding.tied[name]


def stack_named(holding, name):
    if name not in holding.piled:
        raise NoStack(f"there is no stack {name}")
    return holding.piled[name]


def check_place(at, first, last):
    if not is_number(at) or not first <= at <= last:
        raise NoPlace(f"a place from {first} to {last} is asked for")


def comes_to(holding, pile):
    """The pair (frame, rings) to which a stack comes."""
    fallen, entries = pile
    frame, rings = stacked(holding.width, [entry_frame(holding, entry) for entry in entries])
    return frame, fallen + rings


def entry_frame(holding, entry):
    if entry[0] == "hook":
        return hook(holding.width, entry[1])
    kind, name, turned, flipped = entry
    frame = holding.tied[name]
    if turned:
        frame = over(frame)
    return mirrored(frame) if flipped else frame


def holders(holding, name):
    """The rising names of the stacks that have the frame of that name."""
    return sorted([stack for stack in holding.piled if has_frame(holding.piled[stack], name)])


def has_frame(pile, name):
    fallen, entries = pile
    return ("frame", name) in [entry[:2] for entry in entries]


def pile_with(holding, stack, at, name):
    """The stack as it is behind a hang, whether there is room for it or not."""
    fallen, entries = stack_named(holding, stack)
    frame_named(holding, name)
    check_place(at, 0, len(entries))
    return fallen, entries[:at] + (upright(name),) + entries[at:]


def upright(name):
    """The entry of a frame that is neither over nor mirrored."""
    return "frame", name, False, False
