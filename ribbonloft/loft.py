"""The loft: frames and stacks by names, deeds that can be taken back, and questions."""

from ribbonloft.checks import check_pegs
from ribbonloft.deeds import done
from ribbonloft.errors import NothingThere
from ribbonloft.holdings import (
    Holding, check_place, comes_to, frame_named, holders, pile_with, stack_named,
)
from ribbonloft.shortest import shortest_row


class Loft:
    """What it has now, what it had ahead of each deed that stands, and what was taken back.

    The last holdings of past and future are those to which undo and redo lead.
    """

    def __init__(self, pegs):
        check_pegs(pegs)
        self.now = Holding(pegs, {}, {})
        self.past = []
        self.future = []

    def do(self, deed):
        holding, told = done(self.now, deed)
        self.past.append(self.now)
        self.now = holding
        self.future = []
        return told

    def undo(self):
        if not self.past:
            raise NothingThere("there is nothing to take back")
        self.future.append(self.now)
        self.now = self.past.pop()

    def redo(self):
        if not self.future:
            raise NothingThere("there is nothing to do again")
        self.past.append(self.now)
        self.now = self.future.pop()

    def undoable(self):
        return len(self.past)

    def redoable(self):
        return len(self.future)

    def twin(self):
        other = loft_with(self.now)
        other.past = list(self.past)
        other.future = list(self.future)
        return other

    def tie(self, name, frame):
        return self.do(("tie", name, frame))

    def retie(self, name, frame):
        return self.do(("retie", name, frame))

    def drop(self, name):
        return self.do(("drop", name))

    def stack(self, name):
        return self.do(("stack", name))

    def unstack(self, name):
        return self.do(("unstack", name))

    def hang(self, stack, at, name):
        return self.do(("hang", stack, at, name))

    def hook(self, stack, at, number):
        return self.do(("hook", stack, at, number))

    def unhang(self, stack, at):
        return self.do(("unhang", stack, at))

    def swap(self, stack, at):
        return self.do(("swap", stack, at))

    def turn(self, stack):
        return self.do(("turn", stack))

    def mirror(self, stack):
        return self.do(("mirror", stack))

    def splice(self, stack, at, name):
        return self.do(("splice", stack, at, name))

    def cut(self, stack, at, name):
        return self.do(("cut", stack, at, name))

    def pegs(self):
        return self.now.width

    def frames(self):
        return sorted(list(self.now.tied))

    def stacks(self):
        return sorted(list(self.now.piled))

    def frame(self, name):
        return frame_named(self.now, name)

    def entries(self, stack):
        return list(stack_named(self.now, stack)[1])

    def fallen(self, stack):
        return stack_named(self.now, stack)[0]

    def comes(self, stack):
        return comes_to(self.now, stack_named(self.now, stack))

    def part(self, stack, at, to):
        entries = stack_named(self.now, stack)[1]
        check_place(at, 0, len(entries))
        check_place(to, at, len(entries))
        return comes_to(self.now, (0, entries[at:to]))

    def row(self, stack):
        return shortest_row(self.comes(stack)[0])

    def same(self, one, other):
        return self.comes(one) == self.comes(other)

    def held(self, name):
        frame_named(self.now, name)
        return holders(self.now, name)

    def if_hung(self, stack, at, name):
        return comes_to(self.now, pile_with(self.now, stack, at, name))


def loft_with(holding):
    """A loft that has this, and nothing to take back or to do again."""
    loft = Loft(holding.width)
    loft.now = holding
    return loft
