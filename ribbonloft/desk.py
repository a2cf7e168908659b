"""The desk: a loft that is told orders as texts."""

from ribbonloft.errors import (
    BadFrame, BadHook, BadName, Full, Hangs, NoFrame, NoPlace, NoStack, NothingThere, Taken,
)
from ribbonloft.frames import brackets, from_brackets, is_brackets
from ribbonloft.loft import Loft
from ribbonloft.pages import entry_word, number_written, page

# What is written behind the word of each order.
FORMS = {
    "tie": ("name", "brackets"), "retie": ("name", "brackets"), "drop": ("name",),
    "stack": ("name",), "unstack": ("name",),
    "hang": ("name", "number", "name"), "hook": ("name", "number", "number"),
    "unhang": ("name", "number"), "swap": ("name", "number"),
    "turn": ("name",), "mirror": ("name",),
    "splice": ("name", "number", "name"), "cut": ("name", "number", "name"),
    "undo": (), "redo": (),
    "comes": ("name",), "row": ("name",), "same": ("name", "name"), "page": (),
}


class Desk:
    def __init__(self, pegs):
        self.own = Loft(pegs)

    def loft(self):
        return self.own

    def tell(self, text):
        order, *words = text.split(" ")
        handed = values_of(order, words)
        if handed is None:
            return "no order"
        return answer_or_refusal(self.own, order, handed)


def values_of(order, words):
    """What is handed in with an order, or None where there is no such order."""
    if order not in FORMS or len(FORMS[order]) != len(words):
        return None
    values = [value_of(kind, word) for kind, word in zip(FORMS[order], words)]
    return None if None in values else values


def value_of(kind, word):
    if kind == "number":
        return number_of_word(word)
    if kind == "brackets":
        return frame_of_word(word)
    return word if word else None


def number_of_word(word):
    if not word.startswith("-"):
        return number_written(word)
    number = number_written(word[1:])
    # Nought is not below 0.
    return -number if number else None


def frame_of_word(word):
    if not word or not all([sign in ("(", ")") for sign in word]):
        return None
    # A tuple that is no frame stands for brackets of none: the loft refuses it when its turn comes.
    return from_brackets(word) if is_brackets(word) else ()


def answer_or_refusal(loft, order, handed):
    try:
        return answer(loft, order, handed)
    except BadFrame:
        return "no BadFrame"
    except BadHook:
        return "no BadHook"
    except BadName:
        return "no BadName"
    except NoFrame:
        return "no NoFrame"
    except NoStack:
        return "no NoStack"
    except NoPlace:
        return "no NoPlace"
    except Taken:
        return "no Taken"
    except Full:
        return "no Full"
    except Hangs:
        return "no Hangs"
    except NothingThere:
        return "no NothingThere"


def answer_undo(loft, handed):
    loft.undo()
    return "done"


def answer_redo(loft, handed):
    loft.redo()
    return "done"


def answer_comes(loft, handed):
    frame, rings = loft.comes(handed[0])
    return f"{rings} {brackets(frame)}"


def answer_row(loft, handed):
    row = loft.row(handed[0])
    return " ".join([str(number) for number in row]) if row else "-"


def answer_same(loft, handed):
    return "yes" if loft.same(handed[0], handed[1]) else "no"


def answer_page(loft, handed):
    return page(loft)


# All orders but the deeds of the loft.
OTHERS = {
    "undo": answer_undo, "redo": answer_redo, "comes": answer_comes, "row": answer_row,
    "same": answer_same, "page": answer_page,
}


def answer(loft, order, handed):
    if order in OTHERS:
        action = OTHERS[order]
        return action(loft, handed)
    told = loft.do((order,) + tuple(handed))
    if order == "unhang":
        return entry_word(told)
    return "done" if told is None else str(told)
