"""The loft's questions, taking back and doing again, and twins."""

import random
import unittest

from ribbonloft.loft import Loft
from ribbonloft.pages import page
from tests.model import Model, frames_of, over, mirrored, rows_of, state_of
from tests.support import (
    HOOK_3_0, HOOK_3_1, PLAIN_3, THIRTY_FIGURES, expected_stack, frame_of, hook_of, plain_of, some_frames,
)
from tests.test_deeds import NO_NAMES, DeedsCase

SLANTED = (1, 0, 3, 2, 5, 4)
ALL_DEEDS = [
    ("tie", "a", HOOK_3_0), ("tie", "b", SLANTED), ("retie", "a", HOOK_3_1), ("stack", "s"),
    ("hang", "s", 0, "a"), ("hang", "s", 0, "b"), ("hook", "s", 1, 0), ("hook", "s", 3, 1),
    ("swap", "s", 1), ("turn", "s"), ("mirror", "s"), ("unhang", "s", 2), ("hook", "s", 0, 1),
    ("hook", "s", 0, 1), ("splice", "s", 0, "c"), ("cut", "s", 1, "t"), ("unstack", "t"), ("drop", "b"),
    ("turn", "s"), ("retie", "c", HOOK_3_1),
]


def drawn_deed(draw, model):
    """A deed, more often than not one that is not refused."""
    pegs = model.pegs
    frames = sorted(model.frames) * 3 + ["a", "q", "Bad"]
    stacks = sorted(model.stacks) * 3 + ["a", "q", ""]
    new = draw.choice(["a", "b", "c", "dd", "eee", "f", "g", "h", "i", "jj", "k", "l", "m", "n", "A"])
    frame = draw.choice(sorted(frames_of(pegs)) + [()])
    stack = draw.choice(stacks)
    at = draw.randrange(-1, len(model.entries(stack)) + 2)
    word = draw.choice(
        ["tie"] * 4 + ["retie", "drop"] + ["stack"] * 3 + ["unstack"] + ["hang"] * 12 + ["hook"] * 8
        + ["unhang", "swap", "swap", "turn", "mirror", "splice", "splice", "cut"]
    )
    handed = {
        "tie": (new, frame), "retie": (draw.choice(frames), frame), "drop": (draw.choice(frames),),
        "stack": (new,), "unstack": (stack,), "hang": (stack, at, draw.choice(frames)),
        "hook": (stack, at, draw.randrange(-1, max(pegs, 2))), "unhang": (stack, at), "swap": (stack, at),
        "turn": (stack,), "mirror": (stack,), "splice": (stack, at, new), "cut": (stack, at, new),
    }
    return (word,) + handed[word]


class LoftCase(DeedsCase):
    def like(self, loft, model):
        """Checks that a loft tells all that its model does."""
        self.assertEqual(state_of(loft), model.has())
        self.assertEqual((loft.undoable(), loft.redoable()), (len(model.past), len(model.future)))
        for name in model.frames:
            self.assertEqual(loft.held(name), model.holders(name))
        for stack in model.stacks:
            self.assertEqual(loft.comes(stack), model.comes(stack))
            self.assertEqual(loft.row(stack), rows_of(model.pegs)[model.comes(stack)[0]])


class QuestionsTest(LoftCase):
    def filled(self):
        self.prepared(("tie", "b", SLANTED), ("tie", "a", HOOK_3_0), ("stack", "t"), ("stack", "s"))
        self.prepared(("hang", "s", 0, "a"), ("hook", "s", 1, 0), ("hang", "s", 2, "b"), ("hook", "s", 3, 1))
        self.prepared(("hook", "t", 0, 0), ("hook", "t", 0, 0), ("splice", "t", 0, "c"), ("hang", "t", 0, "b"))
        return self.loft

    def test_names(self):
        loft = self.filled()
        self.assertEqual(loft.pegs(), 3)
        self.assertEqual((loft.frames(), loft.stacks()), (["a", "b", "c"], ["s", "t"]))

    def test_frame_entries_and_fallen(self):
        loft = self.filled()
        self.assertEqual([loft.frame(name) for name in "abc"], [HOOK_3_0, SLANTED, HOOK_3_0])
        self.assertEqual(loft.entries("t"), [("frame", "b", False, False), ("frame", "c", False, False)])
        self.assertEqual((loft.fallen("s"), loft.fallen("t")), (0, 1))

    def test_comes(self):
        loft = self.filled()
        self.assertEqual(loft.comes("s"), expected_stack(3, [HOOK_3_0, HOOK_3_0, SLANTED, HOOK_3_1]))
        self.assertEqual(loft.comes("s"), (SLANTED, 3))
        self.assertEqual(loft.comes("t"), (HOOK_3_0, 1))
        loft.stack("none")
        self.assertEqual(loft.comes("none"), (PLAIN_3, 0))
        self.assertIs(type(loft.comes("s")), tuple)

    def test_comes_of_turned_and_mirrored_frames(self):
        for frame in some_frames(7, 8):
            loft = Loft(7)
            for deed in (
                ("tie", "a", frame), ("stack", "s"), ("hang", "s", 0, "a"), ("turn", "s"), ("hang", "s", 0, "a"),
                ("mirror", "s"), ("hang", "s", 0, "a"), ("hook", "s", 1, 4), ("turn", "s"), ("hang", "s", 0, "a"),
            ):
                loft.do(deed)
            told = [frame, mirrored(frame), over(mirrored(frame)), hook_of(7, 4), over(frame)]
            self.assertEqual(loft.comes("s"), expected_stack(7, told))

    def test_part(self):
        loft = self.filled()
        frames = [HOOK_3_0, HOOK_3_0, SLANTED, HOOK_3_1]
        for at in range(5):
            self.assertEqual(loft.part("s", at, at), (PLAIN_3, 0))
            for to in range(at + 1, 5):
                self.assertEqual(loft.part("s", at, to), expected_stack(3, frames[at:to]))
        self.assertEqual(loft.part("t", 0, 2), (HOOK_3_0, 0))
        self.assertEqual(loft.part("t", 2, 2), (PLAIN_3, 0))

    def test_part_refuses(self):
        loft = self.filled()
        many = THIRTY_FIGURES
        for at, to in (
            (-1, 0), (-1, 4), (0, -1), (1, 0), (4, 3), (0, 5), (4, 5), (5, 5), (5, 4), (-2, -1),
            (many, many), (0, many), (-many, 0), (-many, many), (0, -many), (True, 3), (0, True), (False, 0),
        ):
            self.refused("NoPlace", loft.part, "s", at, to)
            self.refused("NoStack", loft.part, "a", at, to)

    def test_row(self):
        loft = self.filled()
        self.assertEqual(loft.row("s"), [0, 1])
        self.assertEqual(loft.row("t"), [0])
        loft.stack("none")
        self.assertEqual(loft.row("none"), [])
        other = Loft(5)
        other.stack("s")
        for at, number in enumerate((3, 1, 2, 0)):
            other.hook("s", at, number)
        self.assertEqual(other.row("s"), [1, 0, 3, 2])
        other.hook("s", 0, 1)
        other.hook("s", 0, 3)
        self.assertEqual(other.row("s"), [1, 0, 3, 2])

    def test_same(self):
        loft = self.filled()
        loft.stack("u")
        self.assertIs(loft.same("s", "s"), True)
        self.assertIs(loft.same("s", "t"), False)
        self.assertIs(loft.same("t", "s"), False)
        loft.hook("u", 0, 0)
        # The same frame, but a ring less.
        self.assertIs(loft.same("t", "u"), False)
        loft.hook("u", 0, 0)
        self.assertIs(loft.same("t", "u"), True)
        self.assertIs(loft.same("u", "t"), True)
        loft.hook("u", 2, 1)
        self.assertEqual(loft.comes("u"), (SLANTED, 1))
        self.assertIs(loft.same("t", "u"), False)

    def test_held(self):
        loft = self.filled()
        self.assertEqual([loft.held(name) for name in "abc"], [["s"], ["s", "t"], ["t"]])
        loft.tie("d", PLAIN_3)
        self.assertEqual(loft.held("d"), [])
        loft.turn("t")
        loft.mirror("t")
        loft.hang("t", 0, "b")
        self.assertEqual(loft.held("b"), ["s", "t"])

    def test_if_hung(self):
        loft = self.filled()
        frames = [HOOK_3_0, HOOK_3_0, SLANTED, HOOK_3_1]
        for at in range(5):
            for name in "abc":
                told = loft.if_hung("s", at, name)
                self.assertEqual(told, expected_stack(3, frames[:at] + [loft.frame(name)] + frames[at:]))
                twin = loft.twin()
                twin.hang("s", at, name)
                self.assertEqual(told, twin.comes("s"))
        # The fallen rings count as they do for the stack itself.
        self.assertEqual(loft.if_hung("t", 2, "a"), (HOOK_3_0, 2))
        self.assertEqual(len(loft.entries("s")), 4)

    def test_if_hung_refuses(self):
        loft = self.filled()
        for at in (-1, 5, 6, THIRTY_FIGURES, -THIRTY_FIGURES, True, False):
            self.refused("NoPlace", loft.if_hung, "s", at, "a")
            self.refused("NoFrame", loft.if_hung, "s", at, "s")
            self.refused("NoStack", loft.if_hung, "a", at, "s")

    def test_names_of_none(self):
        loft = self.filled()
        for name in NO_NAMES + ["q", "s"]:
            for question in (loft.frame, loft.held):
                self.refused("NoFrame", question, name)
            self.refused("NoFrame", loft.if_hung, "s", 0, name)
        for name in NO_NAMES + ["q", "a"]:
            for question in (loft.entries, loft.fallen, loft.comes, loft.row):
                self.refused("NoStack", question, name)
            self.refused("NoStack", loft.same, name, "s")
            self.refused("NoStack", loft.same, "s", name)
            self.refused("NoStack", loft.part, name, 0, 0)
            self.refused("NoStack", loft.if_hung, name, 0, "a")

    def test_questions_change_nothing(self):
        loft = self.filled()
        loft.undo()
        kept = state_of(loft), loft.undoable(), loft.redoable()
        for _ in range(2):
            loft.pegs(), loft.frames(), loft.stacks(), loft.frame("a"), loft.entries("s"), loft.fallen("s")
            loft.comes("s"), loft.part("s", 0, 2), loft.row("s"), loft.same("s", "t"), loft.held("a")
            loft.if_hung("s", 0, "a"), loft.undoable(), loft.redoable(), loft.twin(), page(loft)
            self.assertEqual((state_of(loft), loft.undoable(), loft.redoable()), kept)
        loft.redo()

    def test_refused_questions_change_nothing(self):
        loft = self.filled()
        loft.undo()
        kept = state_of(loft), loft.undoable(), loft.redoable()
        for question, handed in (
            (loft.frame, ("q",)), (loft.entries, ("q",)), (loft.comes, ("q",)), (loft.part, ("s", 3, 2)),
            (loft.held, ("q",)), (loft.if_hung, ("s", 9, "a")), (loft.same, ("s", "q")),
        ):
            with self.assertRaises(ValueError):
                question(*handed)
        self.assertEqual((state_of(loft), loft.undoable(), loft.redoable()), kept)

    def test_told_lists_that_are_changed_change_nothing(self):
        loft = self.filled()
        questions = [
            (loft.frames, ()), (loft.stacks, ()), (loft.entries, ("s",)), (loft.row, ("s",)), (loft.held, ("b",)),
        ]
        kept = [list(question(*handed)) for question, handed in questions]
        for (question, handed), before in zip(questions, kept):
            told = question(*handed)
            self.assertIs(type(told), list)
            told.append("more")
            told[0] = None
            self.assertEqual(question(*handed), before)
            question(*handed).clear()
            self.assertEqual(question(*handed), before)
        self.assertEqual([question(*handed) for question, handed in questions], kept)

    def test_told_lists_stay_behind_a_step(self):
        loft = self.filled()
        told = [loft.frames(), loft.stacks(), loft.entries("s"), loft.row("s"), loft.held("b")]
        kept = [list(one) for one in told]
        steps = [
            lambda: loft.tie("q", PLAIN_3), lambda: loft.hang("s", 0, "b"), lambda: loft.hook("s", 0, 1),
            lambda: loft.turn("s"), lambda: loft.mirror("s"), lambda: loft.swap("s", 1),
            lambda: loft.cut("s", 2, "u"), lambda: loft.unstack("s"), loft.undo, loft.undo, loft.undo,
            loft.redo, loft.undo, loft.undo,
        ]
        for step in steps:
            step()
            self.assertEqual(told, kept)

    def test_lists_told_are_not_kept_by_what_can_be_taken_back(self):
        loft = self.filled()
        loft.entries("s").clear()
        loft.hook("s", 0, 1)
        loft.entries("s").clear()
        loft.undo()
        self.assertEqual(len(loft.entries("s")), 4)
        loft.redo()
        self.assertEqual(len(loft.entries("s")), 5)


class BackAndForthTest(LoftCase):
    def test_each_deed_by_do_and_by_its_method(self):
        model, other = Model(3), Loft(3)
        self.assertEqual({deed[0] for deed in ALL_DEEDS}, set(
            "tie retie drop stack unstack hang hook unhang swap turn mirror splice cut".split()
        ))
        for deed in ALL_DEEDS:
            self.assertEqual(model.due(deed), [])
            told = model.do(deed)
            self.assertEqual(self.loft.do(deed), told)
            self.assertEqual(getattr(other, deed[0])(*deed[1:]), told)
            self.like(self.loft, model)
            self.like(other, model)

    def test_to_the_very_beginning_and_the_very_end(self):
        states = [state_of(self.loft)]
        for deed in ALL_DEEDS:
            self.loft.do(deed)
            states.append(state_of(self.loft))
        many = len(ALL_DEEDS)
        for _ in range(2):
            for at in range(many, 0, -1):
                self.assertEqual((self.loft.undoable(), self.loft.redoable()), (at, many - at))
                self.assertIsNone(self.loft.undo())
                self.assertEqual(state_of(self.loft), states[at - 1])
            self.refused("NothingThere", self.loft.undo)
            self.assertEqual((self.loft.undoable(), self.loft.redoable()), (0, many))
            for at in range(many):
                self.assertIsNone(self.loft.redo())
                self.assertEqual(state_of(self.loft), states[at + 1])
            self.refused("NothingThere", self.loft.redo)
            self.assertEqual((self.loft.undoable(), self.loft.redoable()), (many, 0))

    def test_each_deed_alone(self):
        for at, deed in enumerate(ALL_DEEDS):
            loft = Loft(3)
            for ahead in ALL_DEEDS[:at]:
                loft.do(ahead)
            before = state_of(loft)
            told = loft.do(deed)
            behind = state_of(loft)
            loft.undo()
            self.assertEqual(state_of(loft), before)
            loft.redo()
            self.assertEqual(state_of(loft), behind)
            loft.undo()
            self.assertEqual(loft.do(deed), told)
            self.assertEqual(state_of(loft), behind)

    def test_nothing_there_in_a_new_loft(self):
        self.refused("NothingThere", self.loft.undo)
        self.refused("NothingThere", self.loft.redo)
        self.loft.stack("s")
        self.refused("NothingThere", self.loft.redo)
        self.assertEqual(self.loft.stacks(), ["s"])

    def test_a_deed_lets_go_what_could_be_done_again(self):
        for deed in (("stack", "q"), ("tie", "q", PLAIN_3), ("turn", "s"), ("retie", "a", HOOK_3_0)):
            self.setUp()
            self.prepared(("tie", "a", HOOK_3_0), ("stack", "s"), ("hang", "s", 0, "a"), ("hook", "s", 0, 1))
            self.loft.undo()
            self.loft.undo()
            self.assertEqual(self.loft.redoable(), 2)
            self.loft.do(deed)
            self.assertEqual((self.loft.undoable(), self.loft.redoable()), (3, 0))
            self.refused("NothingThere", self.loft.redo)

    def test_a_refused_one_does_not(self):
        self.prepared(("tie", "a", HOOK_3_0), ("stack", "s"), ("hang", "s", 0, "a"), ("hook", "s", 0, 1))
        self.loft.undo()
        for name, deed in (
            ("Taken", ("tie", "a", PLAIN_3)), ("NoFrame", ("retie", "q", PLAIN_3)), ("Hangs", ("drop", "a")),
            ("Taken", ("stack", "s")), ("NoStack", ("unstack", "q")), ("NoPlace", ("hang", "s", 2, "a")),
            ("BadHook", ("hook", "s", 0, 2)), ("NoPlace", ("unhang", "s", 1)), ("NoPlace", ("swap", "s", 0)),
            ("NoStack", ("turn", "q")), ("NoStack", ("mirror", "q")), ("NoPlace", ("splice", "s", 0, "b")),
            ("BadName", ("cut", "s", 0, "B")),
        ):
            self.refused(name, self.loft.do, deed)
            self.assertEqual((self.loft.undoable(), self.loft.redoable()), (3, 1))
        self.loft.redo()
        self.assertEqual(self.loft.entries("s"), [("hook", 1), ("frame", "a", False, False)])

    def test_a_deed_that_changes_nothing_is_one(self):
        self.prepared(("stack", "s"), ("turn", "s"), ("mirror", "s"), ("tie", "a", PLAIN_3), ("retie", "a", PLAIN_3))
        self.assertEqual(self.loft.undoable(), 5)
        for _ in range(5):
            self.loft.undo()
        self.assertEqual(state_of(self.loft), ({}, {}))

    def test_some_hundreds_of_deeds(self):
        model = Model(3)
        for deed in ALL_DEEDS[:10]:
            model.do(deed)
            self.loft.do(deed)
        for at in range(420):
            deed = [("hook", "s", 0, at % 2), ("turn", "s"), ("unhang", "s", 1), ("mirror", "s")][at % 4]
            self.assertEqual(self.loft.do(deed), model.do(deed))
        self.like(self.loft, model)
        for _ in range(430):
            self.loft.undo()
            model.undo()
            self.assertEqual(state_of(self.loft), model.has())
        self.refused("NothingThere", self.loft.undo)
        for _ in range(430):
            self.loft.redo()
            model.redo()
            self.assertEqual(state_of(self.loft), model.has())
        self.refused("NothingThere", self.loft.redo)


class TwinTest(LoftCase):
    def test_it_has_all_that_the_loft_has(self):
        self.prepared(*ALL_DEEDS)
        for _ in range(5):
            self.loft.undo()
        twin = self.loft.twin()
        self.assertIs(type(twin), Loft)
        self.assertIsNot(twin, self.loft)
        self.assertEqual(state_of(twin), state_of(self.loft))
        self.assertEqual((twin.pegs(), twin.undoable(), twin.redoable()), (3, len(ALL_DEEDS) - 5, 5))
        while twin.undoable():
            twin.undo()
            self.loft.undo()
            self.assertEqual(state_of(twin), state_of(self.loft))
        while twin.redoable():
            twin.redo()
            self.loft.redo()
            self.assertEqual(state_of(twin), state_of(self.loft))

    def test_neither_changes_the_other(self):
        self.prepared(*ALL_DEEDS)
        self.loft.undo()
        kept = state_of(self.loft), self.loft.undoable(), self.loft.redoable()
        twin = self.loft.twin()
        twin.stack("q")
        twin.undo()
        twin.undo()
        twin.tie("q", PLAIN_3)
        self.assertEqual((state_of(self.loft), self.loft.undoable(), self.loft.redoable()), kept)
        kept = state_of(twin), twin.undoable(), twin.redoable()
        self.loft.redo()
        for _ in range(6):
            self.loft.undo()
        self.loft.hook("s", 0, 1)
        self.assertEqual((state_of(twin), twin.undoable(), twin.redoable()), kept)

    def test_a_twin_of_a_twin(self):
        self.prepared(*ALL_DEEDS[:8])
        twin = self.loft.twin()
        twin.turn("s")
        third = twin.twin()
        third.undo()
        third.undo()
        self.assertEqual([loft.undoable() for loft in (self.loft, twin, third)], [8, 9, 7])
        self.assertEqual([loft.redoable() for loft in (self.loft, twin, third)], [0, 0, 2])
        third.redo()
        self.assertEqual(state_of(third), state_of(self.loft))
        third.redo()
        self.assertEqual(state_of(third), state_of(twin))
        self.assertEqual(self.loft.redoable(), 0)

    def test_a_twin_of_a_new_loft(self):
        twin = self.loft.twin()
        self.refused("NothingThere", twin.undo)
        twin.stack("s")
        self.assertEqual((self.loft.stacks(), twin.stacks()), ([], ["s"]))
        self.refused("NothingThere", self.loft.undo)


class DrawnTest(LoftCase):
    def step(self, draw, loft, model):
        kind = draw.randrange(10)
        if kind < 2:
            word, there = ("undo", model.past) if kind else ("redo", model.future)
            if there:
                self.assertIsNone(getattr(loft, word)())
                getattr(model, word)()
            else:
                self.refused("NothingThere", getattr(loft, word))
            return
        deed = drawn_deed(draw, model)
        due = model.due(deed)
        if due:
            told = self.refused(due[0], loft.do, deed)
            if due[0] == "Hangs":
                self.assertEqual(told.by, model.holders(deed[1])[0])
        else:
            self.assertEqual(loft.do(deed), model.do(deed), deed)

    def test_drawn_deeds(self):
        for seed, pegs in enumerate([1, 2, 3, 3, 4, 4, 5]):
            draw = random.Random(seed)
            both = [(Loft(pegs), Model(pegs))]
            for at in range(300):
                if at % 100 == 50:
                    loft, model = draw.choice(both)
                    both.append((loft.twin(), model.twin()))
                for loft, model in both:
                    self.step(draw, loft, model)
                    self.like(loft, model)

    def test_ten_pegs(self):
        loft, frames = Loft(10), some_frames(10, 12)
        loft.stack("s")
        for at, frame in enumerate(frames):
            loft.tie("abcdefghijkl"[at], frame)
            loft.hang("s", at, "abcdefghijkl"[at])
        self.assertEqual(loft.comes("s"), expected_stack(10, frames))
        loft.turn("s")
        self.assertEqual(loft.comes("s"), expected_stack(10, [over(frame) for frame in frames[::-1]]))
        loft.mirror("s")
        told = expected_stack(10, [mirrored(over(frame)) for frame in frames[::-1]])
        self.assertEqual(loft.comes("s"), told)
        self.assertEqual(loft.part("s", 0, 0), (plain_of(10), 0))
        self.assertEqual(frame_of(page(loft).split("\n")[1].split(" ")[2]), frames[0])


if __name__ == "__main__":
    unittest.main()
