"""Trades, which change a row of hooks and a number of rings but not what they make."""

from ribbonloft.checks import is_number
from ribbonloft.errors import BadTrade
from ribbonloft.hooks import check_row, is_hook, made
from ribbonloft.shortest import shortest_row


def traded(pegs, rings, row, trade):
    return walked(pegs, rings, row, [trade])


def walked(pegs, rings, row, trades):
    check_row(pegs, row)
    pair = (rings, list(row))
    for at, trade in enumerate(trades):
        pair = pair_behind(pegs, pair, trade)
        if pair is None:
            raise BadTrade(at)
    return pair


def bridge(pegs, one, other):
    if what_is_made(pegs, one) != what_is_made(pegs, other):
        return None
    there = settling(pegs, one[1])
    back = settling(pegs, other[1])
    return [trade for trade, opposite in there] + [opposite for trade, opposite in back[::-1]]


def what_is_made(pegs, pair):
    rings, row = pair
    frame, fallen = made(pegs, row)
    return frame, rings + fallen


# Each of these tells the pair behind a trade, or None where it can't be made.


def swapped(rings, row, at):
    if not has_places(row, at, 2) or abs(row[at] - row[at + 1]) < 2:
        return None
    return rings, row[:at] + [row[at + 1], row[at]] + row[at + 2:]


def dropped(rings, row, at):
    if not has_places(row, at, 2) or row[at] != row[at + 1]:
        return None
    return rings + 1, row[:at] + row[at + 1:]


def doubled(rings, row, at):
    if not has_places(row, at, 1) or rings < 1:
        return None
    return rings - 1, row[:at] + [row[at]] + row[at:]


def shortened(rings, row, at):
    if not has_places(row, at, 3) or row[at] != row[at + 2] or abs(row[at] - row[at + 1]) != 1:
        return None
    return rings, row[:at + 1] + row[at + 3:]


def grown(pegs, rings, row, at, number):
    if not has_places(row, at, 1) or not is_hook(pegs, number) or abs(row[at] - number) != 1:
        return None
    return rings, row[:at + 1] + [number, row[at]] + row[at + 1:]


TRADES_AT_A_PLACE = {"swap": swapped, "drop": dropped, "double": doubled, "cut": shortened}


def pair_behind(pegs, pair, trade):
    rings, row = pair
    word, *numbers = trade
    if word == "grow" and len(numbers) == 2:
        return grown(pegs, rings, row, numbers[0], numbers[1])
    if word in TRADES_AT_A_PLACE and len(numbers) == 1:
        action = TRADES_AT_A_PLACE[word]
        return action(rings, row, numbers[0])
    return None


def has_places(row, at, many):
    """Whether the row has so many places from at on."""
    return is_number(at) and 0 <= at <= len(row) - many


# Every row is settled to its frame's row, by trades that need no ring and that can be
# taken back, so that two rows meet there. A step is a pair of a trade and its opposite.


def settling(pegs, row):
    """The steps that lead from a row to its frame's row."""
    rest = list(row)
    steps = []
    shorten(rest, steps)
    arrange(rest, steps, shortest_row(made(pegs, row)[0]))
    return steps


def shorten(row, steps):
    """Makes the row, a list that is changed here, as short as can be."""
    found = loose_pair(row)
    while found is not None:
        first, last = found
        close_up(row, steps, first, last)
        found = loose_pair(row)


def loose_pair(row):
    """The places of two like hooks, with none alike and at most one neighbour of theirs between.

    None where there are no such ones: the row is as short as can be just then.
    """
    latest = {}
    for last, number in enumerate(row):
        if number in latest and len(neighbours_between(row, latest[number], last)) < 2:
            return latest[number], last
        latest[number] = last
    return None


def neighbours_between(row, first, last):
    """The places between with hooks that differ by one from the first, so that it can't pass them."""
    return [at for at in range(first + 1, last) if abs(row[at] - row[first]) == 1]


def close_up(row, steps, first, last):
    """Brings a loose pair together, and drops or cuts there."""
    between = neighbours_between(row, first, last)
    if not between:
        shift(row, steps, last, first + 1)
        del row[first + 1]
        steps.append((("drop", first), ("double", first)))
        return
    middle = between[0]
    shift(row, steps, last, middle + 1)
    shift(row, steps, first, middle - 1)
    steps.append((("cut", middle - 1), ("grow", middle - 1, row[middle])))
    del row[middle:middle + 2]


def arrange(row, steps, goal):
    """Brings the hooks of a shortest row into the order of another one of the same frame."""
    for to, number in enumerate(goal):
        # Shortest rows of one frame differ by swaps only, so nothing ahead of it holds it back.
        shift(row, steps, row.index(number, to), to)


def shift(row, steps, start, to):
    """Moves a hook from the place start to another one by swaps."""
    for at in list(range(start, to)) + list(range(start - 1, to - 1, -1)):
        row[at], row[at + 1] = row[at + 1], row[at]
        steps.append((("swap", at), ("swap", at)))
