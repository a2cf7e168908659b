"""Lofts as texts, and texts as lofts."""

from ribbonloft.checks import is_peg_count
from ribbonloft.errors import BadPage
from ribbonloft.frames import brackets, from_brackets, is_brackets
from ribbonloft.holdings import (
    MOST_ENTRIES, MOST_FRAMES, MOST_STACKS, Holding, is_name, with_frame, with_pile,
)
from ribbonloft.hooks import is_hook
from ribbonloft.loft import loft_with

MOST_FIGURES = 9


def page(loft):
    rows = [f"loft {loft.pegs()}"]
    for name in loft.frames():
        rows.append(f"frame {name} {brackets(loft.frame(name))}")
    for name in loft.stacks():
        words = ["stack", name, str(loft.fallen(name))]
        rows.append(" ".join(words + [entry_word(entry) for entry in loft.entries(name)]))
    return "\n".join(rows)


def entry_word(entry):
    if entry[0] == "hook":
        return str(entry[1])
    kind, name, turned, flipped = entry
    return name + ("/" if turned else "") + ("~" if flipped else "")


def read(text):
    first, *rows = text.split("\n")
    holding = begun(first)
    if holding is None:
        raise BadPage(0)
    for above, row in enumerate(rows):
        holding = with_row(holding, row)
        if holding is None:
            raise BadPage(above + 1)
    return loft_with(holding)


# Each of these tells None where what it is asked to read is wrong.


def begun(row):
    """The holding with which a page begins that has this first row."""
    word, *rest = row.split(" ")
    if word != "loft" or len(rest) != 1 or not is_peg_count(number_written(rest[0])):
        return None
    return Holding(number_written(rest[0]), {}, {})


def with_row(holding, row):
    word, *rest = row.split(" ")
    if word == "frame" and len(rest) == 2 and not holding.piled:
        return with_frame_row(holding, rest[0], rest[1])
    if word == "stack" and len(rest) >= 2:
        return with_stack_row(holding, rest[0], number_written(rest[1]), rest[2:])
    return None


def with_frame_row(holding, name, text):
    if not may_follow(holding.tied, name, MOST_FRAMES):
        return None
    if not is_brackets(text) or len(text) != 2 * holding.width:
        return None
    return with_frame(holding, name, from_brackets(text))


def with_stack_row(holding, name, fallen, words):
    if not may_follow(holding.piled, name, MOST_STACKS) or fallen is None or len(words) > MOST_ENTRIES:
        return None
    entries = tuple([entry_written(holding, word) for word in words])
    return None if None in entries else with_pile(holding, name, (fallen, entries))


def entry_written(holding, word):
    number = number_written(word)
    if number is not None:
        return ("hook", number) if is_hook(holding.width, number) else None
    unflipped = word.removesuffix("~")
    name = unflipped.removesuffix("/")
    return ("frame", name, name != unflipped, unflipped != word) if name in holding.tied else None


def number_written(word):
    """The number that is written in figures without a needless nought."""
    if not 1 <= len(word) <= MOST_FIGURES or not all(["0" <= sign <= "9" for sign in word]):
        return None
    if word.startswith("0") and word != "0":
        return None
    return int(word)


def may_follow(named, name, most):
    """Whether one more of this name may stand behind those that a page has named so far."""
    return is_name(name) and len(named) < most and all([other < name for other in named])
