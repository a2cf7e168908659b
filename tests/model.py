"""A second way to what a loft tells: slow, straight by the words of [16] to [20].

Nothing here is taken from the package.
"""

import copy
import functools
import re

from tests.support import all_frames, expected_stack, hook_of, plain_of, with_hook

MOST = {"frames": 12, "stacks": 8, "entries": 24}

# The refusals of each deed in the order in which they are told.
TOLD_REFUSALS = {
    "tie": ["BadName", "Taken", "BadFrame", "Full"],
    "retie": ["NoFrame", "BadFrame"],
    "drop": ["NoFrame", "Hangs"],
    "stack": ["BadName", "Taken", "Full"],
    "unstack": ["NoStack"],
    "hang": ["NoStack", "NoFrame", "NoPlace", "Full"],
    "hook": ["NoStack", "BadHook", "NoPlace", "Full"],
    "unhang": ["NoStack", "NoPlace"],
    "swap": ["NoStack", "NoPlace"],
    "turn": ["NoStack"],
    "mirror": ["NoStack"],
    "splice": ["NoStack", "NoPlace", "BadName", "Taken", "Full"],
    "cut": ["NoStack", "NoPlace", "BadName", "Taken", "Full"],
}


@functools.lru_cache(maxsize=None)
def two_come_to(pegs, upper, lower):
    return expected_stack(pegs, (upper, lower))


def comes_to(pegs, frames):
    whole, rings = plain_of(pegs), 0
    for frame in frames:
        whole, fallen = two_come_to(pegs, whole, frame)
        rings += fallen
    return whole, rings


def over(frame):
    pegs = len(frame) // 2
    return tuple((frame[(peg + pegs) % (2 * pegs)] + pegs) % (2 * pegs) for peg in range(2 * pegs))


def mirrored(frame):
    pegs = len(frame) // 2
    to = [pegs - 1 - peg if peg < pegs else 3 * pegs - 1 - peg for peg in range(2 * pegs)]
    return tuple(to[frame[to[peg]]] for peg in range(2 * pegs))


@functools.lru_cache(maxsize=None)
def frames_of(pegs):
    return frozenset(all_frames(pegs))


@functools.lru_cache(maxsize=None)
def rows_of(pegs):
    """For each frame the first of its shortest rows: those of one more hook come of these."""
    rows = {plain_of(pegs): []}
    layer = rows
    while layer:
        longer = {}
        for frame, row in layer.items():
            for i in range(pegs - 1):
                other = with_hook(frame, i)[0]
                if other not in rows:
                    longer[other] = min(row + [i], longer.get(other, row + [i]))
        rows = {**rows, **longer}
        layer = longer
    return rows


def is_name(word):
    return re.fullmatch("[a-z]{1,8}", word) is not None


class Model:
    """What a loft has, with stacks as lists [fallen, entries]."""

    def __init__(self, pegs):
        self.pegs = pegs
        self.frames = {}
        self.stacks = {}
        self.past = []
        self.future = []

    def twin(self):
        return copy.deepcopy(self)

    def has(self):
        return copy.deepcopy((self.frames, self.stacks))

    def undo(self):
        self.future.append(self.has())
        self.frames, self.stacks = self.past.pop()

    def redo(self):
        self.past.append(self.has())
        self.frames, self.stacks = self.future.pop()

    def entries(self, stack):
        return self.stacks[stack][1] if stack in self.stacks else []

    def holders(self, name):
        found = [
            stack for stack, (_, entries) in self.stacks.items()
            if any(entry[0] == "frame" and entry[1] == name for entry in entries)
        ]
        return sorted(found)

    def frame_of(self, entry):
        if entry[0] == "hook":
            return hook_of(self.pegs, entry[1])
        _, name, turned, flipped = entry
        frame = self.frames[name]
        frame = over(frame) if turned else frame
        return mirrored(frame) if flipped else frame

    def part(self, stack, at, to):
        return comes_to(self.pegs, [self.frame_of(entry) for entry in self.stacks[stack][1][at:to]])

    def comes(self, stack):
        frame, rings = self.part(stack, 0, len(self.stacks[stack][1]))
        return frame, rings + self.stacks[stack][0]

    def due(self, deed):
        """All refusals of a deed that are due, in the order in which they are told."""
        return [name for name in TOLD_REFUSALS[deed[0]] if self.is_due(name, *deed)]

    def is_due(self, refusal, word, *handed):
        first, last = handed[0], handed[-1]
        new_names = self.frames if word in ("tie", "splice") else self.stacks
        if refusal == "NoStack":
            return first not in self.stacks
        if refusal == "NoFrame":
            return (last if word == "hang" else first) not in self.frames
        if refusal in ("BadName", "Taken"):
            name = last if word in ("splice", "cut") else first
            return not is_name(name) if refusal == "BadName" else name in new_names
        if refusal == "BadFrame":
            return any(isinstance(peg, bool) for peg in last) or last not in frames_of(self.pegs)
        if refusal == "BadHook":
            return isinstance(last, bool) or last not in range(self.pegs - 1)
        if refusal == "Hangs":
            return bool(self.holders(first))
        many = len(self.entries(first)) if word != "tie" else 0
        if refusal == "NoPlace":
            beyond = {"hang": 1, "hook": 1, "cut": 1, "unhang": 0, "swap": -1, "splice": -1}[word]
            return isinstance(handed[1], bool) or handed[1] not in range(many + beyond)
        if word in ("hang", "hook"):
            return many >= MOST["entries"]
        return len(new_names) >= MOST["frames" if word in ("tie", "splice") else "stacks"]

    def do(self, deed):
        """Does a deed that is not refused."""
        before = self.has()
        word, *handed = deed
        told = getattr(self, "do_" + word)(*handed)
        self.past.append(before)
        self.future = []
        return told

    def do_tie(self, name, frame):
        self.frames[name] = frame

    def do_retie(self, name, frame):
        self.frames[name] = frame

    def do_drop(self, name):
        self.frames.pop(name)

    def do_stack(self, name):
        self.stacks[name] = [0, []]

    def do_unstack(self, name):
        self.stacks.pop(name)

    def do_hang(self, stack, at, name):
        self.stacks[stack][1].insert(at, ("frame", name, False, False))

    def do_hook(self, stack, at, number):
        self.stacks[stack][1].insert(at, ("hook", number))

    def do_unhang(self, stack, at):
        return self.stacks[stack][1].pop(at)

    def do_swap(self, stack, at):
        self.stacks[stack][1][at:at + 2] = self.stacks[stack][1][at:at + 2][::-1]

    def do_turn(self, stack):
        self.stacks[stack][1] = [
            entry if entry[0] == "hook" else (entry[0], entry[1], not entry[2], entry[3])
            for entry in reversed(self.stacks[stack][1])
        ]

    def do_mirror(self, stack):
        self.stacks[stack][1] = [
            ("hook", self.pegs - 2 - entry[1]) if entry[0] == "hook" else entry[:3] + (not entry[3],)
            for entry in self.stacks[stack][1]
        ]

    def do_splice(self, stack, at, name):
        frame, rings = self.part(stack, at, at + 2)
        self.frames[name] = frame
        self.stacks[stack][1][at:at + 2] = [("frame", name, False, False)]
        self.stacks[stack][0] += rings
        return rings

    def do_cut(self, stack, at, name):
        entries = self.stacks[stack][1]
        self.stacks[name] = [0, entries[at:]]
        self.stacks[stack][1] = entries[:at]


def brackets(frame):
    pegs = len(frame) // 2
    order = list(range(pegs)) + list(range(2 * pegs - 1, pegs - 1, -1))
    return "".join("(" if order.index(frame[peg]) > place else ")" for place, peg in enumerate(order))


def entry_word(entry):
    if entry[0] == "hook":
        return str(entry[1])
    return entry[1] + "/" * entry[2] + "~" * entry[3]


def page(model):
    rows = ["loft " + str(model.pegs)]
    rows += ["frame " + name + " " + brackets(frame) for name, frame in sorted(model.frames.items())]
    for name, (fallen, entries) in sorted(model.stacks.items()):
        rows.append(" ".join(["stack", name, str(fallen)] + [entry_word(entry) for entry in entries]))
    return "\n".join(rows)


NUMBER = "(?:0|[1-9][0-9]{0,8})"


def first_wrong_row(text):
    """The number of the first row of a text that is wrong, or None where it is a page."""
    rows = text.split("\n")
    if not re.fullmatch("loft (?:[1-9]|10)", rows[0]):
        return 0
    pegs = int(rows[0].split(" ")[1])
    frames, stacks = [], []
    for at, row in enumerate(rows[1:], start=1):
        frame = re.fullmatch("frame ([a-z]{1,8}) ([()]+)", row)
        stack = re.fullmatch("stack ([a-z]{1,8}) " + NUMBER + "((?: [^ ]+)*)", row)
        if frame and not stacks and is_text_of(pegs, frame[2]):
            frames.append(frame[1])
        elif stack and all(is_entry(pegs, frames, word) for word in stack[2].split(" ")[1:]):
            stacks.append(stack[1])
            if stack[2].count(" ") > MOST["entries"]:
                return at
        else:
            return at
        if frames != sorted(set(frames)) or stacks != sorted(set(stacks)):
            return at
        if len(frames) > MOST["frames"] or len(stacks) > MOST["stacks"]:
            return at
    return None


def is_text_of(pegs, text):
    rest = text
    while "()" in rest:
        rest = rest.replace("()", "")
    return rest == "" and len(text) == 2 * pegs


def is_entry(pegs, frames, word):
    hooks = [str(i) for i in range(pegs - 1)]
    return word in hooks or word in [name + signs for name in frames for signs in ("", "/", "~", "/~")]


def state_of(loft):
    """All that a loft tells of what it has, in the form of Model.has()."""
    frames = {name: loft.frame(name) for name in loft.frames()}
    return frames, {name: [loft.fallen(name), loft.entries(name)] for name in loft.stacks()}
