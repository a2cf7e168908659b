"""What Ribbonloft refuses, one class for each kind of refusal."""


class RibbonError(ValueError):
    """Any refusal."""


class BadPegs(RibbonError):
    """A number of pegs that can't be, or numbers of pegs that don't agree."""


class BadFrame(RibbonError):
    """A tuple that is no frame, or brackets of none."""


class BadHalf(RibbonError):
    """A tuple that is no good half, or halves that make no frame."""


class BadHook(RibbonError):
    """A number that is no hook."""


class BadName(RibbonError):
    """A word that can't be a name."""


class NoNumber(RibbonError):
    """A number under which nothing stands."""


class NoFrame(RibbonError):
    """A name that no frame has."""


class NoStack(RibbonError):
    """A name that no stack has."""


class NoPlace(RibbonError):
    """A place that is not in the stack."""


class Taken(RibbonError):
    """A name that is another one's already."""


class Full(RibbonError):
    """One more than there is room for."""


class NothingThere(RibbonError):
    """Nothing to take back or to do again."""


class BadTrade(RibbonError):
    """A trade that can't be made; at is its place among the trades."""

    def __init__(self, at):
        RibbonError.__init__(self, f"trade {at} can't be made")
        self.at = at


class Hangs(RibbonError):
    """A frame that a stack still has; by is the name of the first such stack."""

    def __init__(self, by):
        RibbonError.__init__(self, f"the stack {by} has it")
        self.by = by


class BadPage(RibbonError):
    """A text that is no page; at is the number of the first row that is wrong."""

    def __init__(self, at):
        RibbonError.__init__(self, f"row {at} is wrong")
        self.at = at
