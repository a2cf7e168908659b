"""Rows in which each place names its partner, or itself where a ribbon leaves the row.

Frames, halves and the joints between frames all have this form, so that what is
asked of ribbons in more than one module is answered here.
"""

from ribbonloft.checks import is_number


def is_pairing(row):
    """Whether the partner of each place is a place and names it in turn."""
    return isinstance(row, tuple) and all([names_back(row, place) for place in range(len(row))])


def names_back(row, place):
    other = row[place]
    return is_number(other) and 0 <= other < len(row) and row[other] == place


def is_uncrossed(row):
    """Whether in a pairing no two ties cross and no place within a tie is alone."""
    waiting = []
    for place, other in enumerate(row):
        if other > place:
            waiting.append(place)
        elif other == place:
            if waiting:
                return False
        elif waiting.pop() != other:
            return False
    return True


def tie(row, one, other):
    """Ties two places of a row, a list that is changed here."""
    row[one] = other
    row[other] = one


def run(one, other, start):
    """The places that a ribbon passes which comes to start from the side of the first pairing.

    It takes the ties of the second and of the first in turn, until it leaves or is a ring.
    """
    places = [start]
    onward = other[start]
    while onward not in (places[-1], start):
        places.append(onward)
        side = one if len(places) % 2 == 0 else other
        onward = side[onward]
    return places


def rings_of(one, other):
    """How many rings the ties of two pairings of the same places make together."""
    seen = [False] * len(one)
    for start in range(len(one)):
        if one[start] == start:
            mark(seen, run(one, other, start))
        if other[start] == start:
            mark(seen, run(other, one, start))
    many = 0
    for start in range(len(one)):
        if not seen[start]:
            many += 1
            mark(seen, run(one, other, start))
    return many


def mark(seen, places):
    for place in places:
        seen[place] = True
