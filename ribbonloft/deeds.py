"""The deeds: each tells the holding behind it, and what it tells to the one who does it.

All of them take the holding ahead and the list of what is handed to them, so that
they can be called by their names.
"""

from ribbonloft.errors import BadFrame, BadName, Full, Hangs, Taken
from ribbonloft.frames import check_frame, pegs_of
from ribbonloft.holdings import (
    MOST_ENTRIES, MOST_FRAMES, MOST_STACKS, check_place, comes_to, frame_named, holders, is_name,
    pile_with, stack_named, upright, with_frame, with_pile, without_frame, without_pile,
)
from ribbonloft.hooks import check_row


def tie_frame(holding, handed):
    name, frame = handed
    check_new_name(holding.tied, name)
    check_fitting(holding, frame)
    check_room(len(holding.tied) + 1, MOST_FRAMES)
    return with_frame(holding, name, frame), None


def retie_frame(holding, handed):
    name, frame = handed
    frame_named(holding, name)
    check_fitting(holding, frame)
    return with_frame(holding, name, frame), None


def drop_frame(holding, handed):
    name = handed[0]
    frame_named(holding, name)
    having = holders(holding, name)
    if having:
        raise Hangs(having[0])
    return without_frame(holding, name), None


def begin_stack(holding, handed):
    name = handed[0]
    check_new_stack(holding, name)
    return with_pile(holding, name, (0, ())), None


def take_stack(holding, handed):
    name = handed[0]
    stack_named(holding, name)
    return without_pile(holding, name), None


def hang_frame(holding, handed):
    stack, at, name = handed
    fallen, entries = pile_with(holding, stack, at, name)
    check_room(len(entries), MOST_ENTRIES)
    return with_pile(holding, stack, (fallen, entries)), None


def hang_hook(holding, handed):
    stack, at, number = handed
    fallen, entries = stack_named(holding, stack)
    check_row(holding.width, [number])
    check_place(at, 0, len(entries))
    check_room(len(entries) + 1, MOST_ENTRIES)
    entries = entries[:at] + (("hook", number),) + entries[at:]
    return with_pile(holding, stack, (fallen, entries)), None


def unhang_entry(holding, handed):
    stack, at = handed
    fallen, entries = stack_named(holding, stack)
    check_place(at, 0, len(entries) - 1)
    rest = entries[:at] + entries[at + 1:]
    return with_pile(holding, stack, (fallen, rest)), entries[at]


def swap_entries(holding, handed):
    stack, at = handed
    fallen, entries = stack_named(holding, stack)
    check_place(at, 0, len(entries) - 2)
    entries = entries[:at] + (entries[at + 1], entries[at]) + entries[at + 2:]
    return with_pile(holding, stack, (fallen, entries)), None


def turn_stack(holding, handed):
    stack = handed[0]
    fallen, entries = stack_named(holding, stack)
    entries = tuple([turned_over(entry) for entry in entries[::-1]])
    return with_pile(holding, stack, (fallen, entries)), None


def mirror_stack(holding, handed):
    stack = handed[0]
    fallen, entries = stack_named(holding, stack)
    entries = tuple([flipped_over(holding.width, entry) for entry in entries])
    return with_pile(holding, stack, (fallen, entries)), None


def splice_entries(holding, handed):
    stack, at, name = handed
    fallen, entries = stack_named(holding, stack)
    check_place(at, 0, len(entries) - 2)
    check_new_name(holding.tied, name)
    check_room(len(holding.tied) + 1, MOST_FRAMES)
    frame, rings = comes_to(holding, (0, entries[at:at + 2]))
    entries = entries[:at] + (upright(name),) + entries[at + 2:]
    return with_pile(with_frame(holding, name, frame), stack, (fallen + rings, entries)), rings


def cut_stack(holding, handed):
    stack, at, name = handed
    fallen, entries = stack_named(holding, stack)
    check_place(at, 0, len(entries))
    check_new_stack(holding, name)
    shorter = with_pile(holding, stack, (fallen, entries[:at]))
    return with_pile(shorter, name, (0, entries[at:])), None


DEEDS = {
    "tie": tie_frame, "retie": retie_frame, "drop": drop_frame, "stack": begin_stack, "unstack": take_stack,
    "hang": hang_frame, "hook": hang_hook, "unhang": unhang_entry, "swap": swap_entries, "turn": turn_stack,
    "mirror": mirror_stack, "splice": splice_entries, "cut": cut_stack,
}


def done(holding, deed):
    """The holding behind a deed, and what the deed tells."""
    word, *handed = deed
    action = DEEDS[word]
    return action(holding, handed)


def check_new_name(named, name):
    if not is_name(name):
        raise BadName("a name has one to eight letters a to z")
    if name in named:
        raise Taken(f"there is one called {name} already")


def check_new_stack(holding, name):
    check_new_name(holding.piled, name)
    check_room(len(holding.piled) + 1, MOST_STACKS)


def check_fitting(holding, frame):
    check_frame(frame)
    if pegs_of(frame) != holding.width:
        raise BadFrame(f"frames of this loft have {holding.width} pegs")


def check_room(many, most):
    if many > most:
        raise Full(f"there is room for {most} only")


def turned_over(entry):
    if entry[0] == "hook":
        return entry
    kind, name, turned, flipped = entry
    return kind, name, not turned, flipped


def flipped_over(pegs, entry):
    if entry[0] == "hook":
        return "hook", pegs - 2 - entry[1]
    kind, name, turned, flipped = entry
    return kind, name, turned, not flipped
