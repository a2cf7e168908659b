"""What several test files need: frames to ask about, and another way to the answers.

Nothing here is taken from the package but its error classes, so that a fault
there can't hide itself.
"""

import itertools

from ribbonloft import errors

WITHOUT_FIELD = [
    "BadPegs", "BadFrame", "BadHalf", "BadHook", "BadName", "NoNumber", "NoFrame",
    "NoStack", "NoPlace", "Taken", "Full", "NothingThere",
]
WITH_FIELD = {"BadTrade": "at", "Hangs": "by", "BadPage": "at"}
ALL_ERRORS = WITHOUT_FIELD + sorted(WITH_FIELD)

THIRTY_FIGURES = 10 ** 30 - 1
BAD_PEG_COUNTS = [0, 11, 12, -1, -10, THIRTY_FIGURES, -THIRTY_FIGURES, True, False]

PLAIN_1 = (1, 0)
PLAIN_2 = (2, 3, 0, 1)
PLAIN_3 = (3, 4, 5, 0, 1, 2)
HOOK_2 = (1, 0, 3, 2)
HOOK_3_0 = (1, 0, 5, 4, 3, 2)
HOOK_3_1 = (3, 2, 1, 0, 5, 4)

NO_FRAMES = {
    "empty": (),
    "one number": (0,),
    "odd": (1, 0, 2),
    "odd, a half": (1, 0, 2, 4, 3),
    "eleven pegs": tuple(range(11, 22)) + tuple(range(11)),
    "eleven pegs, only ties along the rails": tuple(
        peg ^ 1 for peg in range(22)
    ),
    "tied to itself": (0, 1),
    "one of them tied to itself": (0, 2, 1, 3),
    "beyond": (1, 2),
    "far beyond": (THIRTY_FIGURES, 0),
    "below 0": (1, -2),
    "below 0, right if counted from the end": (-1, 0),
    "far below 0": (-THIRTY_FIGURES, 0),
    "tied to one that is tied elsewhere": (1, 2, 3, 0),
    "two to the same": (1, 0, 1, 0),
    "crossing on the upper rail": (2, 3, 0, 1, 5, 4, 7, 6),
    "crossing on the lower rail": (1, 0, 3, 2, 6, 7, 4, 5),
    "crossing from rail to rail": (3, 2, 1, 0),
    "through between the two of a tie": (2, 4, 0, 5, 1, 3),
    "through between two lower ones": (1, 0, 4, 5, 2, 3),
    "no numbers": (True, False),
    "one that is no number": (2, 3, False, 1),
}


def round_of(pegs):
    """The pegs in the order of the round."""
    return list(range(pegs)) + list(range(2 * pegs - 1, pegs - 1, -1))


def crosses(order, first, second):
    """Whether one meets the ends of two pairs in turn along the order."""
    met = [peg in first for peg in order if peg in first or peg in second]
    return met in ([True, False, True, False], [False, True, False, True])


def pairings(places):
    """All ways to pair the places, as lists of pairs."""
    if not places:
        return [[]]
    found = []
    for other in places[1:]:
        rest = [place for place in places[1:] if place != other]
        found += [[(places[0], other)] + more for more in pairings(rest)]
    return found


def all_frames(pegs):
    """All frames of so many pegs, straight by the words of [3]."""
    found = []
    for pairs in pairings(list(range(2 * pegs))):
        if any(crosses(round_of(pegs), *two) for two in itertools.combinations(pairs, 2)):
            continue
        found.append(tied(pairs, 2 * pegs))
    return sorted(found)


def tied(pairs, many):
    ends = list(range(many))
    for one, other in pairs:
        ends[one], ends[other] = other, one
    return tuple(ends)


def all_halves(pegs):
    """All good halves of so many pegs, straight by the words of [8]."""
    found = []
    for half in itertools.product(range(pegs), repeat=pegs):
        if all(half[half[peg]] == peg for peg in range(pegs)) and is_good(half):
            found.append(half)
    return found


def is_good(half):
    pairs = [(peg, other) for peg, other in enumerate(half) if peg < other]
    within = [peg for low, high in pairs for peg in range(low + 1, high) if half[peg] == peg]
    order = list(range(len(half)))
    return not within and not any(crosses(order, *two) for two in itertools.combinations(pairs, 2))


def pieces(points, links):
    """The points in groups that links hold together."""
    group = {point: point for point in points}
    for one, other in links:
        old, new = group[one], group[other]
        for point in points:
            if group[point] == old:
                group[point] = new
    return [[p for p in points if group[p] == name] for name in sorted(set(group.values()))]


def expected_stack(pegs, frames):
    """The frame and the rings of a row of frames, all of it taken at once.

    The pegs are (rail, number from the left); the frame k ties the rails 2k and
    2k + 1, and the next one hangs from the latter.
    """
    points, links = [], []
    for level, frame in enumerate(frames):
        names = [(2 * level + peg // pegs, peg % pegs) for peg in range(2 * pegs)]
        points += names
        links += [(names[peg], names[frame[peg]]) for peg in range(2 * pegs)]
        if level:
            links += [((2 * level - 1, i), (2 * level, i)) for i in range(pegs)]
    last = 2 * len(frames) - 1
    pairs, rings = [], 0
    for piece in pieces(points, links):
        ends = [i for rail, i in piece if rail == 0] + [pegs + i for rail, i in piece if rail == last]
        if ends:
            pairs.append(tuple(ends))
        else:
            rings += 1
    return tied(pairs, 2 * pegs), rings


def some_frames(pegs, many):
    """A fixed row of frames of so many pegs, different in all sorts of ways."""
    found = []
    state = 12345 + pegs
    for _ in range(many):
        text, depth = "", 0
        for left in range(2 * pegs, 0, -1):
            state = (state * 1103515245 + 12345) % 2 ** 31
            opens = depth == 0 or (depth < left and (state >> 16) % 2 == 0)
            text += "(" if opens else ")"
            depth += 1 if opens else -1
        found.append(frame_of(text))
    return found


def frame_of(text):
    """The frame of brackets: the inmost pairs are taken off one after the other."""
    order = round_of(len(text) // 2)
    left = list(zip(order, text))
    pairs = []
    while left:
        at = next(k for k in range(len(left)) if (left[k][1], left[k + 1][1]) == ("(", ")"))
        pairs.append((left[at][0], left[at + 1][0]))
        del left[at:at + 2]
    return tied(pairs, len(text))


def all_texts(pegs):
    """All brackets of so many pegs, in the order of texts."""
    texts = {"": 0}
    for left in range(2 * pegs - 1, -1, -1):
        longer = {}
        for text, depth in texts.items():
            if depth + 1 <= left:
                longer[text + "("] = depth + 1
            if depth > 0:
                longer[text + ")"] = depth - 1
        texts = longer
    return sorted(texts)


def halves_by_signs(pegs):
    """All halves of so many pegs, in the order of tuples: from texts in which | goes through."""
    found = []
    for signs in itertools.product("()|", repeat=pegs):
        waiting, pairs, good = [], [], True
        for peg, sign in enumerate(signs):
            if sign == "(":
                waiting.append(peg)
            elif sign == ")" and waiting:
                pairs.append((waiting.pop(), peg))
            elif sign == ")" or waiting:
                good = False
                break
        if good and not waiting:
            found.append(tied(pairs, pegs))
    return sorted(found)


def hook_of(pegs, i):
    """The hook i, straight by the words of [11]."""
    pairs = [(i, i + 1), (pegs + i, pegs + i + 1)]
    return tied(pairs + [(peg, pegs + peg) for peg in range(pegs) if peg not in (i, i + 1)], 2 * pegs)


def plain_of(pegs):
    return tied([(peg, pegs + peg) for peg in range(pegs)], 2 * pegs)


def with_hook(frame, i):
    """The frame and the rings of a hook under a frame: quick, for long walks."""
    pegs = len(frame) // 2
    held = (pegs + i, pegs + i + 1)
    loose = [frame[peg] for peg in held]
    if loose[0] in held:
        return frame, 1
    ends = list(frame)
    ends[held[0]], ends[held[1]] = held[1], held[0]
    ends[loose[0]], ends[loose[1]] = loose[1], loose[0]
    return tuple(ends), 0


def row_comes_to(pegs, row):
    frame, rings = plain_of(pegs), 0
    for i in row:
        frame, fallen = with_hook(frame, i)
        rings += fallen
    return frame, rings


def expected_trade(pegs, rings, row, trade):
    """The pair behind a trade, straight by the words of [13], or None."""
    name, at, *more = trade
    here, next_one, second = [
        row[place] if 0 <= place < len(row) else None for place in (at, at + 1, at + 2)
    ]
    if here is None or len(more) != (name == "grow"):
        return None
    head, tail = list(row[:at]), list(row[at + 1:])
    if name == "swap" and next_one is not None and next_one not in (here - 1, here, here + 1):
        return rings, head + [next_one, here] + tail[1:]
    if name == "drop" and next_one == here:
        return rings + 1, head + tail
    if name == "double" and rings:
        return rings - 1, head + [here, here] + tail
    if name == "cut" and second == here and next_one in (here - 1, here + 1):
        return rings, head + tail[1:]
    if name == "grow" and more[0] in (here - 1, here + 1) and more[0] in range(pegs - 1):
        return rings, head + [here, more[0], here] + tail
    return None


def trades_near(pegs, row):
    """All trades with places and hooks in the row or somewhat outside, and some that are none."""
    for at in range(-len(row) - 2, len(row) + 3):
        for name in ("swap", "drop", "double", "cut", "grow", "shift", ""):
            yield name, at
            for number in range(-2, pegs + 2):
                yield name, at, number


class Refusals:
    """For test cases: a call that must be refused with one class and no other."""

    def refused(self, name, function, *handed):
        with self.assertRaises(errors.RibbonError, msg=(name, function, handed)) as caught:
            function(*handed)
        told = caught.exception
        self.assertIsInstance(told, ValueError)
        fitting = [other for other in ALL_ERRORS if isinstance(told, getattr(errors, other))]
        self.assertEqual(fitting, [name], (function, handed))
        return told
