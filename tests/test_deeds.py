"""The deeds of [16] and [17]: what they do, what they tell, and what they refuse."""

import itertools
import unittest

from ribbonloft.loft import Loft
from tests.model import TOLD_REFUSALS, Model, over, mirrored, state_of
from tests.support import (
    BAD_PEG_COUNTS, HOOK_3_0, HOOK_3_1, NO_FRAMES, PLAIN_1, PLAIN_2, PLAIN_3, THIRTY_FIGURES,
    Refusals, frame_of, hook_of, plain_of,
)

NO_NAMES = [
    "", "abcdefghi", "A", "Ab", "aB", "a1", "1", "0", "a b", " a", "a ", " ", "a-b", "a_b", "a/", "a~",
    "~", "/", "-", "a\n", "\n", "a.b", "`", "{", "abcdefgh ", "a" * 100,
]
NO_TEXTS = [7, None, True, ("a",), b"a"]
FAR_PLACES = [THIRTY_FIGURES, -THIRTY_FIGURES, 10 ** 29, -(10 ** 29)]
NO_NUMBERS = [True, False]
SLANTED = (1, 0, 3, 2, 5, 4)
NAMES = ["a", "b", "c", "d", "e", "f", "g", "h", "i", "j", "k", "l", "m"]


class DeedsCase(Refusals, unittest.TestCase):
    def setUp(self):
        self.loft = Loft(3)

    def prepared(self, *deeds):
        for deed in deeds:
            self.loft.do(deed)
        return self.loft

    def unchanged(self, name, *deed):
        """Checks that a deed is refused, as a method and as a tuple, and changes nothing."""
        word, *handed = deed
        loft = self.loft
        kept = state_of(loft), loft.undoable(), loft.redoable()
        told = self.refused(name, getattr(loft, word), *handed)
        self.refused(name, loft.do, tuple(deed))
        self.assertEqual((state_of(loft), loft.undoable(), loft.redoable()), kept)
        return told


class NewLoftTest(DeedsCase):
    def test_it_is_empty(self):
        for pegs in range(1, 11):
            loft = Loft(pegs)
            self.assertEqual(loft.pegs(), pegs)
            self.assertEqual((loft.frames(), loft.stacks()), ([], []))
            self.assertEqual((loft.undoable(), loft.redoable()), (0, 0))

    def test_bad_pegs(self):
        for pegs in BAD_PEG_COUNTS:
            self.refused("BadPegs", Loft, pegs)


class FrameDeedsTest(DeedsCase):
    def test_tie(self):
        self.assertIsNone(self.loft.tie("b", HOOK_3_0))
        self.assertIsNone(self.loft.tie("abcdefgh", PLAIN_3))
        self.assertIsNone(self.loft.tie("zzzzzzzz", PLAIN_3))
        self.assertEqual(self.loft.frames(), ["abcdefgh", "b", "zzzzzzzz"])
        self.assertEqual(self.loft.frame("b"), HOOK_3_0)
        self.assertEqual(self.loft.frame("abcdefgh"), PLAIN_3)

    def test_tie_refuses(self):
        self.prepared(("tie", "a", PLAIN_3))
        for name in NO_NAMES + NO_TEXTS:
            self.unchanged("BadName", "tie", name, HOOK_3_0)
            self.unchanged("BadName", "tie", name, (0, 1))
        self.unchanged("Taken", "tie", "a", PLAIN_3)
        self.unchanged("Taken", "tie", "a", HOOK_3_0)
        for frame in list(NO_FRAMES.values()) + [PLAIN_1, PLAIN_2, plain_of(4), plain_of(10)]:
            self.unchanged("BadFrame", "tie", "b", frame)
            self.unchanged("Taken", "tie", "a", frame)

    def test_frames_of_each_number_of_pegs(self):
        for pegs in range(1, 11):
            self.loft = Loft(pegs)
            for other in range(1, 11):
                if other != pegs:
                    self.unchanged("BadFrame", "tie", "a", plain_of(other))
            self.assertIsNone(self.loft.tie("a", plain_of(pegs)))

    def test_retie(self):
        self.prepared(("tie", "a", PLAIN_3), ("tie", "b", PLAIN_3), ("stack", "s"), ("stack", "t"))
        self.prepared(("hang", "s", 0, "a"), ("hang", "s", 1, "b"), ("hang", "t", 0, "a"), ("turn", "t"))
        self.prepared(("hang", "t", 1, "a"), ("mirror", "t"), ("hang", "t", 2, "a"))
        self.assertEqual(self.loft.comes("t"), (PLAIN_3, 0))
        self.assertIsNone(self.loft.retie("a", SLANTED))
        self.assertEqual(self.loft.frame("a"), SLANTED)
        self.assertEqual(self.loft.frame("b"), PLAIN_3)
        self.assertEqual(self.loft.comes("s"), (SLANTED, 0))
        self.assertEqual(
            self.loft.entries("t"),
            [("frame", "a", True, True), ("frame", "a", False, True), ("frame", "a", False, False)],
        )
        self.assertEqual(self.loft.part("t", 0, 1), (SLANTED, 0))
        self.assertEqual(self.loft.part("t", 1, 2), ((5, 2, 1, 4, 3, 0), 0))
        self.assertIsNone(self.loft.retie("a", SLANTED))
        self.assertEqual(self.loft.undoable(), 13)

    def test_retie_of_a_frame_that_is_unlike_when_turned(self):
        self.loft = Loft(4)
        self.prepared(("tie", "a", plain_of(4)), ("stack", "s"), ("stack", "t"), ("stack", "u"))
        self.prepared(("hang", "s", 0, "a"), ("hang", "t", 0, "a"), ("hang", "u", 0, "a"))
        self.prepared(("turn", "t"), ("mirror", "u"))
        frame = frame_of("(()())()")
        self.loft.retie("a", frame)
        told = [self.loft.comes(stack) for stack in ("s", "t", "u")]
        self.assertEqual(told, [(frame, 0), ((1, 0, 4, 7, 2, 6, 5, 3), 0), ((4, 2, 1, 5, 0, 3, 7, 6), 0)])
        self.loft.mirror("t")
        self.assertEqual(self.loft.comes("t"), (mirrored(over(frame)), 0))

    def test_retie_refuses(self):
        self.prepared(("tie", "a", PLAIN_3), ("stack", "s"))
        for name in NO_NAMES + ["b", "s"]:
            self.unchanged("NoFrame", "retie", name, HOOK_3_0)
            self.unchanged("NoFrame", "retie", name, (0, 1))
        for frame in list(NO_FRAMES.values()) + [PLAIN_1, PLAIN_2, plain_of(4)]:
            self.unchanged("BadFrame", "retie", "a", frame)

    def test_drop(self):
        self.prepared(("tie", "a", PLAIN_3), ("tie", "b", HOOK_3_0))
        self.assertIsNone(self.loft.drop("a"))
        self.assertEqual(self.loft.frames(), ["b"])
        self.unchanged("NoFrame", "drop", "a")
        self.assertIsNone(self.loft.tie("a", HOOK_3_1))
        self.assertEqual(self.loft.frame("a"), HOOK_3_1)

    def test_drop_refuses(self):
        self.prepared(("stack", "s"))
        for name in NO_NAMES + ["b", "s"]:
            self.unchanged("NoFrame", "drop", name)

    def test_the_first_stack_that_has_it(self):
        self.prepared(("tie", "a", PLAIN_3), ("tie", "b", PLAIN_3), ("stack", "t"), ("stack", "s"))
        self.prepared(("stack", "ss"), ("stack", "a"), ("hang", "a", 0, "b"), ("hang", "t", 0, "a"))
        self.assertEqual(self.unchanged("Hangs", "drop", "a").by, "t")
        self.prepared(("hang", "ss", 0, "b"), ("hang", "ss", 1, "a"))
        self.assertEqual(self.unchanged("Hangs", "drop", "a").by, "ss")
        self.prepared(("hang", "s", 0, "a"), ("turn", "s"), ("mirror", "s"))
        self.assertEqual(self.unchanged("Hangs", "drop", "a").by, "s")
        self.assertEqual(self.unchanged("Hangs", "drop", "b").by, "a")
        self.prepared(("unhang", "s", 0), ("unstack", "ss"), ("unhang", "t", 0))
        self.assertIsNone(self.loft.drop("a"))

    def test_a_frame_and_a_stack_of_one_name(self):
        self.prepared(("tie", "a", HOOK_3_0), ("stack", "a"), ("hang", "a", 0, "a"), ("hook", "a", 1, 0))
        self.unchanged("Taken", "tie", "a", HOOK_3_0)
        self.unchanged("Taken", "stack", "a")
        self.assertEqual(self.unchanged("Hangs", "drop", "a").by, "a")
        self.assertIsNone(self.loft.unstack("a"))
        self.assertEqual((self.loft.frames(), self.loft.stacks()), (["a"], []))
        self.assertIsNone(self.loft.stack("a"))
        self.assertIsNone(self.loft.drop("a"))
        self.assertEqual((self.loft.frames(), self.loft.stacks()), ([], ["a"]))


class StackDeedsTest(DeedsCase):
    def test_stack(self):
        self.assertIsNone(self.loft.stack("b"))
        self.assertIsNone(self.loft.stack("abcdefgh"))
        self.assertEqual(self.loft.stacks(), ["abcdefgh", "b"])
        self.assertEqual((self.loft.entries("b"), self.loft.fallen("b")), ([], 0))
        self.assertEqual(self.loft.comes("b"), (PLAIN_3, 0))

    def test_stack_refuses(self):
        self.prepared(("stack", "a"))
        for name in NO_NAMES + NO_TEXTS:
            self.unchanged("BadName", "stack", name)
        self.unchanged("Taken", "stack", "a")

    def test_unstack(self):
        self.prepared(("tie", "a", HOOK_3_0), ("stack", "s"), ("stack", "t"))
        self.prepared(("hang", "s", 0, "a"), ("hang", "s", 0, "a"), ("splice", "s", 0, "b"))
        self.assertIsNone(self.loft.unstack("s"))
        self.assertEqual(self.loft.stacks(), ["t"])
        self.assertEqual(self.loft.frames(), ["a", "b"])
        self.loft.stack("s")
        self.assertEqual((self.loft.entries("s"), self.loft.fallen("s")), ([], 0))

    def test_no_stack(self):
        self.prepared(("tie", "a", PLAIN_3), ("stack", "s"))
        for name in NO_NAMES + ["a", "b"]:
            for deed in (
                ("unstack", name), ("turn", name), ("mirror", name), ("hang", name, 0, "a"),
                ("hook", name, 0, 0), ("unhang", name, 0), ("swap", name, 0),
                ("splice", name, 0, "b"), ("cut", name, 0, "b"),
            ):
                self.unchanged("NoStack", *deed)


class EntryDeedsTest(DeedsCase):
    def with_three(self):
        """A stack s with two frames and a hook between."""
        self.prepared(("tie", "a", HOOK_3_0), ("tie", "b", SLANTED), ("stack", "s"), ("stack", "none"))
        self.prepared(("hang", "s", 0, "a"), ("hook", "s", 1, 1), ("hang", "s", 2, "b"))
        self.assertEqual(
            self.loft.entries("s"),
            [("frame", "a", False, False), ("hook", 1), ("frame", "b", False, False)],
        )

    def test_hang_and_hook_at_each_place(self):
        for word, what, entry in (
            ("hang", "b", ("frame", "b", False, False)), ("hook", 0, ("hook", 0)),
        ):
            for at in range(4):
                self.setUp()
                self.with_three()
                ahead = self.loft.entries("s")
                self.assertIsNone(getattr(self.loft, word)("s", at, what))
                self.assertEqual(self.loft.entries("s"), ahead[:at] + [entry] + ahead[at:])
                self.assertEqual(self.loft.entries("none"), [])

    def test_no_place(self):
        self.with_three()
        for at in [-1, -2, -3, -4, 4, 5, 24, 25] + FAR_PLACES + NO_NUMBERS:
            self.unchanged("NoPlace", "hang", "s", at, "a")
            self.unchanged("NoPlace", "hook", "s", at, 0)
            self.unchanged("NoPlace", "cut", "s", at, "t")
        for at in [-1, -2, -3, 3, 4] + FAR_PLACES + NO_NUMBERS:
            self.unchanged("NoPlace", "unhang", "s", at)
        for at in [-1, -2, -3, 2, 3, 4] + FAR_PLACES + NO_NUMBERS:
            self.unchanged("NoPlace", "swap", "s", at)
            self.unchanged("NoPlace", "splice", "s", at, "c")
        for at in [0, 1, -1] + FAR_PLACES:
            self.unchanged("NoPlace", "unhang", "none", at)
            self.unchanged("NoPlace", "swap", "none", at)
            self.unchanged("NoPlace", "splice", "none", at, "c")
        self.loft.hook("none", 0, 0)
        for at in [0, 1, -1]:
            self.unchanged("NoPlace", "swap", "none", at)
            self.unchanged("NoPlace", "splice", "none", at, "c")

    def test_no_frame_and_bad_hook(self):
        self.with_three()
        for name in NO_NAMES + ["c", "s"]:
            for at in (0, 3, 4, -1):
                self.unchanged("NoFrame", "hang", "s", at, name)
        for number in [-1, 2, 3, THIRTY_FIGURES, -THIRTY_FIGURES] + NO_NUMBERS:
            for at in (0, 3, 4, -1):
                self.unchanged("BadHook", "hook", "s", at, number)

    def test_hooks_of_each_number_of_pegs(self):
        for pegs in range(1, 11):
            self.loft = Loft(pegs)
            self.loft.stack("s")
            for number in range(-2, pegs + 2):
                if number in range(pegs - 1):
                    self.assertIsNone(self.loft.hook("s", 0, number))
                    self.assertEqual(self.loft.part("s", 0, 1), (hook_of(pegs, number), 0))
                else:
                    self.unchanged("BadHook", "hook", "s", 0, number)

    def test_unhang_tells_the_entry(self):
        self.with_three()
        self.prepared(("turn", "s"), ("mirror", "none"))
        self.assertEqual(self.loft.unhang("s", 1), ("hook", 1))
        self.loft.mirror("s")
        self.assertEqual(self.loft.do(("unhang", "s", 1)), ("frame", "a", True, True))
        self.loft.turn("s")
        self.assertEqual(self.loft.unhang("s", 0), ("frame", "b", False, True))
        self.assertEqual(self.loft.entries("s"), [])
        self.unchanged("NoPlace", "unhang", "s", 0)

    def test_unhang_at_each_place(self):
        for at in range(3):
            self.setUp()
            self.with_three()
            ahead = self.loft.entries("s")
            self.assertEqual(self.loft.unhang("s", at), ahead[at])
            self.assertEqual(self.loft.entries("s"), ahead[:at] + ahead[at + 1:])

    def test_swap(self):
        self.with_three()
        first, second, third = self.loft.entries("s")
        self.assertIsNone(self.loft.swap("s", 0))
        self.assertEqual(self.loft.entries("s"), [second, first, third])
        self.assertIsNone(self.loft.swap("s", 1))
        self.assertEqual(self.loft.entries("s"), [second, third, first])

    def test_turn(self):
        self.with_three()
        self.loft.hook("s", 3, 0)
        ahead = self.loft.comes("s")
        self.assertIsNone(self.loft.turn("s"))
        self.assertEqual(
            self.loft.entries("s"),
            [("hook", 0), ("frame", "b", True, False), ("hook", 1), ("frame", "a", True, False)],
        )
        self.assertEqual(self.loft.comes("s"), (over(ahead[0]), ahead[1]))
        self.assertIsNone(self.loft.turn("s"))
        self.assertEqual(self.loft.comes("s"), ahead)
        self.assertIsNone(self.loft.turn("none"))
        self.assertEqual(self.loft.entries("none"), [])

    def test_mirror(self):
        self.loft = Loft(4)
        frame = frame_of("(()())()")
        self.prepared(("tie", "a", frame), ("stack", "s"), ("hang", "s", 0, "a"), ("hook", "s", 1, 0))
        self.prepared(("hook", "s", 2, 1), ("hook", "s", 3, 2), ("hang", "s", 4, "a"), ("stack", "none"))
        ahead = self.loft.comes("s")
        self.assertIsNone(self.loft.mirror("s"))
        self.assertEqual(
            self.loft.entries("s"),
            [("frame", "a", False, True), ("hook", 2), ("hook", 1), ("hook", 0), ("frame", "a", False, True)],
        )
        self.assertEqual(self.loft.comes("s"), (mirrored(ahead[0]), ahead[1]))
        self.assertIsNone(self.loft.turn("s"))
        self.assertEqual(self.loft.entries("s")[0], ("frame", "a", True, True))
        self.assertIsNone(self.loft.mirror("s"))
        self.assertEqual(self.loft.entries("s")[0], ("frame", "a", True, False))
        self.assertIsNone(self.loft.mirror("none"))

    def test_flags_are_true_and_false(self):
        self.with_three()
        for deed in ("turn", "mirror", "turn", "mirror"):
            getattr(self.loft, deed)("s")
            for entry in self.loft.entries("s"):
                self.assertIs(type(entry), tuple)
                if entry[0] == "frame":
                    self.assertTrue(entry[2] is True or entry[2] is False)
                    self.assertTrue(entry[3] is True or entry[3] is False)

    def test_turned_and_mirrored_stacks_keep_their_fallen_rings(self):
        self.with_three()
        self.prepared(("hook", "s", 0, 0), ("hook", "s", 0, 0), ("splice", "s", 0, "c"))
        for deed in ("turn", "mirror"):
            getattr(self.loft, deed)("s")
            self.assertEqual(self.loft.fallen("s"), 1)


class SpliceTest(DeedsCase):
    def test_rings_fall(self):
        self.prepared(("stack", "s"), ("tie", "a", HOOK_3_0), ("hang", "s", 0, "a"), ("hook", "s", 1, 0))
        self.prepared(("hook", "s", 2, 0), ("hook", "s", 3, 1))
        ahead = self.loft.comes("s")
        self.assertEqual(ahead, (SLANTED, 2))
        self.assertEqual(self.loft.splice("s", 0, "b"), 1)
        self.assertEqual(self.loft.frame("b"), HOOK_3_0)
        self.assertEqual(self.loft.entries("s"), [("frame", "b", False, False), ("hook", 0), ("hook", 1)])
        self.assertEqual((self.loft.fallen("s"), self.loft.comes("s")), (1, ahead))
        self.assertEqual(self.loft.splice("s", 1, "c"), 0)
        self.assertEqual(self.loft.frame("c"), SLANTED)
        self.assertEqual((self.loft.fallen("s"), self.loft.comes("s")), (1, ahead))
        self.assertEqual(self.loft.do(("splice", "s", 0, "d")), 1)
        self.assertEqual(self.loft.entries("s"), [("frame", "d", False, False)])
        self.assertEqual((self.loft.fallen("s"), self.loft.comes("s")), (2, ahead))
        self.assertEqual(self.loft.part("s", 0, 1), (SLANTED, 0))
        self.assertEqual(self.loft.frames(), ["a", "b", "c", "d"])

    def test_many_rings_at_once(self):
        beside = frame_of("()" * 10)
        self.loft = Loft(10)
        self.prepared(("tie", "a", beside), ("stack", "s"), ("hang", "s", 0, "a"), ("hang", "s", 0, "a"))
        self.assertEqual(self.loft.splice("s", 0, "b"), 5)
        self.assertEqual(self.loft.comes("s"), (beside, 5))

    def test_turned_and_mirrored_entries(self):
        frame = frame_of("((())())(())")
        self.loft = Loft(6)
        self.prepared(("tie", "a", frame), ("stack", "s"), ("hang", "s", 0, "a"), ("turn", "s"))
        self.prepared(("hang", "s", 1, "a"), ("mirror", "s"))
        ahead = self.loft.comes("s")
        rings = self.loft.splice("s", 0, "b")
        self.assertEqual((self.loft.frame("b"), rings), ahead)
        self.assertEqual(self.loft.comes("s"), ahead)
        self.assertEqual(self.loft.frame("a"), frame)

    def test_other_stacks_stay(self):
        self.prepared(("stack", "s"), ("stack", "t"))
        for stack in ("s", "t"):
            self.prepared(("hook", stack, 0, 0), ("hook", stack, 0, 0))
        self.loft.splice("s", 0, "a")
        self.assertEqual((self.loft.entries("t"), self.loft.fallen("t")), ([("hook", 0)] * 2, 0))

    def test_refusals(self):
        self.prepared(("stack", "s"), ("tie", "a", PLAIN_3), ("hook", "s", 0, 0), ("hook", "s", 0, 0))
        for name in NO_NAMES:
            self.unchanged("BadName", "splice", "s", 0, name)
            self.unchanged("NoPlace", "splice", "s", 1, name)
        self.unchanged("Taken", "splice", "s", 0, "a")
        self.assertEqual(self.loft.splice("s", 0, "s"), 1)


class CutTest(DeedsCase):
    def test_at_each_place(self):
        for at in range(5):
            self.setUp()
            self.prepared(("stack", "s"), ("tie", "a", HOOK_3_0), ("hang", "s", 0, "a"))
            self.prepared(("hang", "s", 0, "a"), ("splice", "s", 0, "b"), ("hook", "s", 1, 0))
            self.prepared(("hang", "s", 2, "a"), ("hook", "s", 3, 1), ("mirror", "s"))
            ahead = self.loft.entries("s")
            self.assertEqual((len(ahead), self.loft.fallen("s")), (4, 1))
            self.assertIsNone(self.loft.cut("s", at, "t"))
            self.assertEqual(self.loft.entries("s"), ahead[:at])
            self.assertEqual(self.loft.entries("t"), ahead[at:])
            self.assertEqual((self.loft.fallen("s"), self.loft.fallen("t")), (1, 0))
            self.assertEqual(self.loft.stacks(), ["s", "t"])

    def test_an_empty_stack(self):
        self.prepared(("stack", "s"), ("cut", "s", 0, "t"))
        self.assertEqual((self.loft.entries("s"), self.loft.entries("t")), ([], []))

    def test_refusals(self):
        self.prepared(("stack", "s"), ("stack", "t"), ("tie", "a", PLAIN_3))
        for name in NO_NAMES:
            self.unchanged("BadName", "cut", "s", 0, name)
            self.unchanged("NoPlace", "cut", "s", 1, name)
        self.unchanged("Taken", "cut", "s", 0, "t")
        self.unchanged("Taken", "cut", "s", 0, "s")
        self.assertIsNone(self.loft.cut("s", 0, "a"))


class FullTest(DeedsCase):
    def test_frames_by_tie(self):
        for name in NAMES[:12]:
            self.assertIsNone(self.loft.tie(name, PLAIN_3))
        self.unchanged("Full", "tie", "m", PLAIN_3)
        self.unchanged("BadFrame", "tie", "m", PLAIN_2)
        self.unchanged("Taken", "tie", "a", PLAIN_3)
        self.assertIsNone(self.loft.retie("a", HOOK_3_0))
        self.loft.drop("a")
        self.assertIsNone(self.loft.tie("m", PLAIN_3))
        self.unchanged("Full", "tie", "a", PLAIN_3)
        self.loft.undo()
        self.assertIsNone(self.loft.tie("a", PLAIN_3))
        self.assertEqual(len(self.loft.frames()), 12)

    def test_frames_by_splice(self):
        self.prepared(("stack", "s"), ("hook", "s", 0, 0), ("hook", "s", 0, 0), ("hook", "s", 0, 0))
        for name in NAMES[:11]:
            self.loft.tie(name, PLAIN_3)
        self.assertEqual(self.loft.splice("s", 0, "l"), 1)
        self.unchanged("Full", "splice", "s", 0, "m")
        self.unchanged("Full", "tie", "m", PLAIN_3)
        self.unchanged("Taken", "splice", "s", 0, "l")
        self.loft.undo()
        self.assertEqual(self.loft.splice("s", 1, "m"), 1)
        self.unchanged("Full", "splice", "s", 0, "l")
        self.loft.drop("a")
        self.assertEqual(self.loft.splice("s", 0, "l"), 1)

    def test_stacks_by_stack(self):
        for name in NAMES[:8]:
            self.assertIsNone(self.loft.stack(name))
        self.unchanged("Full", "stack", "i")
        self.unchanged("Taken", "stack", "h")
        self.unchanged("BadName", "stack", "H")
        self.unchanged("Full", "cut", "a", 0, "i")
        self.loft.unstack("c")
        self.assertIsNone(self.loft.stack("i"))
        self.unchanged("Full", "stack", "c")
        self.loft.undo()
        self.assertIsNone(self.loft.stack("c"))

    def test_stacks_by_cut(self):
        for name in NAMES[:7]:
            self.loft.stack(name)
        self.loft.hook("a", 0, 0)
        self.assertIsNone(self.loft.cut("a", 0, "h"))
        self.unchanged("Full", "cut", "a", 0, "i")
        self.unchanged("Full", "stack", "i")
        self.unchanged("NoPlace", "cut", "a", 1, "i")
        self.unchanged("Taken", "cut", "a", 0, "a")
        self.loft.undo()
        self.assertIsNone(self.loft.cut("a", 1, "i"))
        self.loft.unstack("a")
        self.assertIsNone(self.loft.cut("i", 0, "a"))

    def test_entries_by_hang_and_hook(self):
        self.prepared(("tie", "a", HOOK_3_0), ("stack", "s"), ("stack", "t"))
        for many in range(24):
            self.assertIsNone(self.loft.hang("s", many, "a") if many % 2 else self.loft.hook("s", 0, 0))
        for at in (0, 12, 24):
            self.unchanged("Full", "hang", "s", at, "a")
            self.unchanged("Full", "hook", "s", at, 1)
        self.unchanged("NoPlace", "hang", "s", 25, "a")
        self.unchanged("NoPlace", "hook", "s", 25, 1)
        self.unchanged("NoFrame", "hang", "s", 24, "b")
        self.unchanged("BadHook", "hook", "s", 24, 2)
        self.assertIsNone(self.loft.hang("t", 0, "a"))
        self.loft.unhang("s", 23)
        self.assertIsNone(self.loft.hook("s", 0, 1))
        self.unchanged("Full", "hang", "s", 0, "a")
        self.loft.undo()
        self.assertIsNone(self.loft.hang("s", 23, "a"))
        self.unchanged("Full", "hook", "s", 0, 1)
        self.loft.splice("s", 0, "b")
        self.assertIsNone(self.loft.hang("s", 0, "b"))
        self.loft.cut("s", 23, "u")
        self.assertIsNone(self.loft.hook("s", 0, 1))
        self.unchanged("Full", "hook", "s", 0, 1)

    def test_if_hung_in_a_full_stack(self):
        self.prepared(("tie", "a", HOOK_3_0), ("tie", "b", SLANTED), ("stack", "s"))
        for _ in range(24):
            self.loft.hang("s", 0, "a")
        self.assertEqual(self.loft.comes("s"), (HOOK_3_0, 23))
        self.assertEqual(self.loft.if_hung("s", 24, "a"), (HOOK_3_0, 24))
        self.assertEqual(self.loft.if_hung("s", 0, "a"), (HOOK_3_0, 24))
        self.assertEqual(self.loft.if_hung("s", 24, "b"), (SLANTED, 24))
        self.assertEqual(self.loft.if_hung("s", 12, "b"), (HOOK_3_0, 23))
        self.refused("NoPlace", self.loft.if_hung, "s", 25, "a")
        self.assertEqual(len(self.loft.entries("s")), 24)


def deeds_at_hand(pegs):
    """All deeds of some names, frames, places and hooks, good ones and wrong ones."""
    names = ["a", "b", "s", "free", "Bad", "", "ninechars"]
    frames = [plain_of(pegs), plain_of(pegs + 1), (), (1, 2, 0)]
    places = [-1, 0, 1, 2, 3, 23, 24, 25, THIRTY_FIGURES, True]
    hooks = [-1, 0, pegs - 2, pegs - 1, False]
    for word in ("tie", "retie"):
        yield from itertools.product([word], names, frames)
    for word in ("drop", "stack", "unstack", "turn", "mirror"):
        yield from itertools.product([word], names)
    for word in ("hang", "splice", "cut"):
        yield from itertools.product([word], names, places, names)
    for word in ("unhang", "swap"):
        yield from itertools.product([word], names, places)
    yield from itertools.product(["hook"], names, places, hooks)


# Each of these two is due only where the other one can't be.
NEVER_TOGETHER = {("BadName", "Taken"), ("NoFrame", "Hangs")}


class OrderOfRefusalsTest(DeedsCase):
    def lofts(self, pegs):
        """Lofts with room and without, each with the model of it."""
        some = [("tie", "a", plain_of(pegs)), ("stack", "s"), ("stack", "a"), ("hang", "s", 0, "a")]
        some += [("tie", "b", plain_of(pegs)), ("hang", "s", 1, "b"), ("turn", "s")]
        tied = [("tie", "x" + name, plain_of(pegs)) for name in NAMES[:10]]
        piled = [("stack", "x" + name) for name in NAMES[:6]]
        hung = [("hang", "s", 1, "a")] * 22
        for deeds in ([], some, some + tied, some + piled, some + hung, some + tied + piled + hung):
            model, loft = Model(pegs), Loft(pegs)
            for deed in deeds:
                model.do(deed)
                loft.do(deed)
            yield loft, model

    def test_the_first_that_is_told_is_told_first(self):
        together = set()
        for pegs in (1, 2, 3):
            for loft, model in self.lofts(pegs):
                self.loft = loft
                for deed in deeds_at_hand(pegs):
                    due = model.due(deed)
                    together.update((deed[0],) + two for two in itertools.combinations(due, 2))
                    if due:
                        self.unchanged(due[0], *deed)
                    else:
                        self.assertEqual(loft.do(deed), model.twin().do(deed), deed)
                        loft.undo()
        wanted = {
            (word,) + two for word, names in TOLD_REFUSALS.items()
            for two in itertools.combinations(names, 2) if two not in NEVER_TOGETHER
        }
        # A stack that is not there is not full, and all wrong places are asked for in full stacks, too.
        missing = {("hang", "NoStack", "Full"), ("hook", "NoStack", "Full")}
        self.assertEqual(wanted - together, missing)


if __name__ == "__main__":
    unittest.main()
