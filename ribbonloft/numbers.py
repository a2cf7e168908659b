"""The numbers of frames and of halves."""

from ribbonloft.checks import check_pegs, is_number
from ribbonloft.errors import BadPegs, NoNumber
from ribbonloft.frames import brackets, from_brackets
from ribbonloft.halves import through_of

MOST_PEGS_OF_EVERY = 6


def how_many(pegs):
    check_pegs(pegs)
    return ways(2 * pegs, 0)


def numbered(pegs, number):
    check_number(number, how_many(pegs))
    text = ""
    depth = 0
    ahead = 0
    for left in range(2 * pegs - 1, -1, -1):
        opened = ways(left, depth + 1)
        if number < ahead + opened:
            text += "("
            depth += 1
        else:
            text += ")"
            depth -= 1
            ahead += opened
    return from_brackets(text)


def number_of(frame):
    text = brackets(frame)
    depth = 0
    ahead = 0
    for place, sign in enumerate(text):
        if sign == "(":
            depth += 1
        else:
            # All texts that go on with the other sign here stand ahead of this one.
            ahead += ways(len(text) - 1 - place, depth + 1)
            depth -= 1
    return ahead


def every(pegs):
    check_pegs(pegs)
    if pegs > MOST_PEGS_OF_EVERY:
        raise BadPegs(f"all frames are told of at most {MOST_PEGS_OF_EVERY} pegs")
    return [numbered(pegs, number) for number in range(how_many(pegs))]


def how_many_halves(pegs, going):
    check_pegs(pegs)
    return ways(pegs, going) if is_number(going) else 0


def half_of(pegs, going, number):
    check_number(number, how_many_halves(pegs, going))
    return half_from(0, pegs, going, number)


def half_number(half):
    return number_from(half, 0, len(half), through_of(half))


def half_from(first, many, going, number):
    """The half of that number among those of so many pegs, which are numbered from first on here."""
    if many == 0:
        return ()
    # The first peg's own number is less than all those to which it may be tied.
    ahead = ways(many - 1, going - 1)
    if number < ahead:
        return (first,) + half_from(first + 1, many - 1, going - 1, number)
    width = 0
    while number >= ahead + tied_around(many, going, width):
        ahead += tied_around(many, going, width)
        width += 2
    other = first + width + 1
    behind = many - width - 2
    inner, outer = divmod(number - ahead, ways(behind, going))
    within = half_from(first + 1, width, 0, inner)
    return (other,) + within + (first,) + half_from(other + 1, behind, going, outer)


def number_from(half, first, end, going):
    """The number of that part of the half which has the pegs from first on and ahead of end."""
    if first == end:
        return 0
    other = half[first]
    if other == first:
        return number_from(half, first + 1, end, going - 1)
    many = end - first
    ahead = ways(many - 1, going - 1)
    for width in range(0, other - first - 1, 2):
        ahead += tied_around(many, going, width)
    ahead += number_from(half, first + 1, other, 0) * ways(end - other - 1, going)
    return ahead + number_from(half, other + 1, end, going)


def tied_around(many, going, width):
    """How many halves tie the first peg to another one with so many pegs between."""
    return ways(width, 0) * ways(many - width - 2, going)


def ways(steps, height):
    """In how many ways so many steps up or down come from 0 to a height and never below 0.

    Brackets are such steps backwards; halves are, with a step up also where a peg goes through.
    """
    if height < 0 or height > steps or (steps - height) % 2 == 1:
        return 0
    downward = (steps - height) // 2
    # By reflection as many ways come below 0 as there are of one step down less.
    return choices(steps, downward) - choices(steps, downward - 1)


def choices(many, chosen):
    """In how many ways so many of so many are chosen."""
    if chosen < 0:
        return 0
    found = 1
    for at in range(chosen):
        found = found * (many - at) // (at + 1)
    return found


def check_number(number, many):
    if not is_number(number) or not 0 <= number < many:
        raise NoNumber(f"there are {many} of them, numbered from 0 on")
