"""What is promised over the whole program: [2], [3] and the first point of the interface."""

import itertools
import unittest

from ribbonloft import (
    desk, errors, frames, halves, hanging, hooks, leads, loft, numbers, pages, shortest, trades,
)
from tests.support import (
    ALL_ERRORS, BAD_PEG_COUNTS, HOOK_2, HOOK_3_0, NO_FRAMES, PLAIN_1, PLAIN_2, PLAIN_3, THIRTY_FIGURES,
    WITH_FIELD, Refusals, plain_of,
)

OF_ONE_FRAME = [
    frames.over, frames.mirrored, lambda frame: frames.carried(frame, 1), frames.through, frames.ties,
    frames.brackets, hanging.closed, halves.upper, halves.lower, numbers.number_of, shortest.seams, shortest.length,
    shortest.shortest_row, shortest.firsts, shortest.lasts, leads.family, leads.itself,
]
OF_TWO_FRAMES = [hanging.hung, leads.below, leads.above, leads.between]

# With each of them all sorts of what may stand behind the number of pegs, wrong things too.
OF_PEGS = [
    (frames.plain, [()]),
    (hanging.stacked, [([],), ([(0, 1)],), ([PLAIN_1],), ([PLAIN_1, PLAIN_2],)]),
    (numbers.how_many, [()]),
    (numbers.numbered, [(0,), (-1,), (THIRTY_FIGURES,), (True,)]),
    (numbers.every, [()]),
    (numbers.how_many_halves, [(0,), (1,), (-1,), (THIRTY_FIGURES,)]),
    (numbers.half_of, [(0, 0), (1, 0), (1, -1), (-1, 0), (THIRTY_FIGURES, THIRTY_FIGURES)]),
    (hooks.hook, [(0,), (-1,), (THIRTY_FIGURES,), (True,)]),
    (hooks.made, [([],), ([0],), ([-1],), ([True],)]),
    (trades.traded, [(0, [0, 0], ("drop", 0)), (0, [], ("drop", 0)), (0, [-1], ("no", 0))]),
    (trades.walked, [(0, [], []), (0, [-1], []), (0, [0], [("drop", 0)])]),
    (trades.bridge, [((0, []), (0, [])), ((0, [-1]), (0, [])), ((0, []), (0, [-1]))]),
    (loft.Loft, [()]),
    (desk.Desk, [()]),
]

INTERFACE = {
    frames: "is_frame plain over mirrored carried through ties brackets from_brackets",
    hanging: "hung stacked closed",
    halves: "is_half upper lower through_of joined meeting",
    numbers: "how_many numbered number_of every how_many_halves half_of half_number",
    hooks: "hook made",
    shortest: "seams length shortest_row firsts lasts",
    trades: "traded walked bridge",
    leads: "below above between family itself",
    pages: "page read",
    loft: "Loft",
    desk: "Desk",
}
OF_A_LOFT = (
    "tie retie drop stack unstack hang hook unhang swap turn mirror splice cut undo redo do pegs frames"
    " stacks frame entries fallen comes part row same held if_hung undoable redoable twin"
)


class InterfaceTest(unittest.TestCase):
    def test_all_names_are_there(self):
        for module, names in INTERFACE.items():
            for name in names.split():
                self.assertTrue(callable(getattr(module, name)), name)
        for name in OF_A_LOFT.split():
            self.assertTrue(callable(getattr(loft.Loft, name)), name)
        for name in ("loft", "tell"):
            self.assertTrue(callable(getattr(desk.Desk, name)), name)

    def test_arguments_by_their_names(self):
        plain, hook = PLAIN_2, HOOK_2
        self.assertEqual(leads.below(frame=plain, goal=hook), ("frame", hook))
        self.assertEqual(leads.above(frame=hook, goal=plain), ("bar", 2, 3))
        self.assertEqual(leads.between(frame=hook, goal=plain), ("bar", 2, 0))
        self.assertEqual(leads.family(frame=plain), (0, 0))
        self.assertIs(leads.itself(frame=plain), True)
        new = loft.Loft(pegs=2)
        new.tie(name="a", frame=plain)
        new.retie(name="a", frame=hook)
        new.stack(name="s")
        new.hang(stack="s", at=0, name="a")
        new.hook(stack="s", at=0, number=0)
        new.swap(stack="s", at=0)
        new.turn(stack="s")
        new.mirror(stack="s")
        self.assertEqual(new.splice(stack="s", at=0, name="b"), 1)
        new.cut(stack="s", at=0, name="t")
        self.assertEqual(new.if_hung(stack="t", at=0, name="a"), (hook, 1))
        self.assertEqual(new.part(stack="t", at=0, to=1), (hook, 0))
        self.assertIs(new.same(one="s", other="t"), False)
        self.assertEqual(new.held(name="b"), ["t"])
        self.assertEqual(new.frame(name="b"), hook)
        self.assertEqual([new.entries(stack="s"), new.fallen(stack="s"), new.row(stack="s")], [[], 1, []])
        self.assertEqual(new.comes(stack="s"), (plain, 1))
        self.assertEqual(new.unhang(stack="t", at=0), ("frame", "b", False, False))
        new.do(deed=("unstack", "t"))
        new.drop(name="b")
        new.unstack(name="s")
        self.assertEqual(pages.page(loft=pages.read(text="loft 2\nstack s 0")), "loft 2\nstack s 0")
        self.assertEqual(desk.Desk(pegs=2).tell(text="page"), "loft 2")


class FramesHandedInTest(Refusals, unittest.TestCase):
    def test_bad_frame(self):
        for frame in NO_FRAMES.values():
            for function in OF_ONE_FRAME:
                self.refused("BadFrame", function, frame)

    def test_of_two_the_first_one_first_and_bad_pegs_behind(self):
        good = [PLAIN_1, HOOK_2, PLAIN_3, plain_of(10)]
        for function in OF_TWO_FRAMES:
            for frame in NO_FRAMES.values():
                for other in good:
                    self.refused("BadFrame", function, frame, other)
                    self.refused("BadFrame", function, other, frame)
                self.refused("BadFrame", function, frame, frame)
            for one, other in itertools.permutations(good, 2):
                self.refused("BadPegs", function, one, other)

    def test_frames_of_each_number_of_pegs_are_taken(self):
        for pegs in range(1, 11):
            for function in OF_ONE_FRAME:
                function(plain_of(pegs))
            for function in OF_TWO_FRAMES:
                function(plain_of(pegs), plain_of(pegs))


class PegsHandedInTest(Refusals, unittest.TestCase):
    def test_bad_pegs_ahead_of_all_else(self):
        for function, behind in OF_PEGS:
            for pegs, handed in itertools.product(BAD_PEG_COUNTS, behind):
                self.refused("BadPegs", function, pegs, *handed)

    def test_one_to_ten_are_taken(self):
        for pegs in range(1, 11):
            frames.plain(pegs)
            hanging.stacked(pegs, [])
            numbers.how_many(pegs)
            numbers.numbered(pegs, 0)
            numbers.how_many_halves(pegs, 0)
            numbers.half_of(pegs, pegs, 0)
            hooks.made(pegs, [])
            trades.walked(pegs, 0, [], [])
            trades.bridge(pegs, (0, []), (0, []))
            loft.Loft(pegs)
            desk.Desk(pegs)


class NumbersTest(Refusals, unittest.TestCase):
    def test_true_and_false_are_no_numbers(self):
        for value in (True, False):
            self.refused("NoNumber", numbers.numbered, 3, value)
            self.refused("NoNumber", numbers.half_of, 3, 1, value)
            self.refused("NoNumber", numbers.half_of, 3, value, 0)
            self.refused("NoNumber", numbers.half_of, 4, value, 0)
            self.assertEqual([numbers.how_many_halves(pegs, value) for pegs in (3, 4)], [0, 0])
            self.refused("BadHook", hooks.hook, 3, value)
            self.refused("BadHook", hooks.made, 3, [0, value])
            self.refused("BadHook", trades.walked, 3, 0, [value], [])
            self.refused("BadTrade", trades.traded, 3, 0, [0, 0], ("drop", value))
            self.refused("BadTrade", trades.traded, 3, 0, [0, 0], ("grow", 0, value))
            self.refused("BadHalf", halves.through_of, (value,))
        self.assertIs(frames.is_frame((True, False)), False)
        self.assertIs(frames.is_frame((1, False)), False)
        self.assertIs(halves.is_half((False,)), False)

    def test_numbers_of_thirty_figures(self):
        for value in (THIRTY_FIGURES, -THIRTY_FIGURES, 10 ** 29, -(10 ** 29)):
            self.refused("NoNumber", numbers.numbered, 10, value)
            self.refused("NoNumber", numbers.half_of, 10, 2, value)
            self.refused("NoNumber", numbers.half_of, 10, value, 0)
            self.assertEqual(numbers.how_many_halves(10, value), 0)
            self.refused("BadHook", hooks.hook, 10, value)
            self.refused("BadTrade", trades.traded, 3, 0, [0, 0], ("drop", value))
            self.refused("BadFrame", frames.over, (value, 0))
            self.refused("BadHalf", halves.through_of, (value,))
            self.assertIs(frames.is_frame((1, 0, value, 2)), False)
            frames.carried(HOOK_3_0, value)


class ErrorsTest(unittest.TestCase):
    def test_of_none_of_the_other_classes(self):
        for name in ALL_ERRORS:
            made = getattr(errors, name)("s")
            self.assertIsInstance(made, errors.RibbonError)
            self.assertIsInstance(made, ValueError)
            fitting = [other for other in ALL_ERRORS if isinstance(made, getattr(errors, other))]
            self.assertEqual(fitting, [name])
            if name in WITH_FIELD:
                self.assertEqual(getattr(made, WITH_FIELD[name]), "s")

    def test_a_caught_refusal_has_its_field(self):
        with self.assertRaises(errors.BadPage) as caught:
            pages.read("loft 2\nframe a (())\nframe a (())")
        self.assertEqual(caught.exception.at, 2)
        with self.assertRaises(errors.BadTrade) as caught:
            trades.walked(2, 0, [0, 0], [("drop", 0), ("drop", 0)])
        self.assertEqual(caught.exception.at, 1)
        new = pages.read("loft 2\nframe a (())\nstack s 0\nstack t 0 a~\nstack u 0 a")
        with self.assertRaises(errors.Hangs) as caught:
            new.drop("a")
        self.assertEqual(caught.exception.by, "t")


class ToldListsTest(unittest.TestCase):
    def test_lists_that_are_told_are_new_ones(self):
        for ask in (
            lambda: frames.ties(HOOK_3_0), lambda: numbers.every(3),
            lambda: shortest.seams(HOOK_3_0), lambda: shortest.shortest_row(HOOK_3_0),
            lambda: shortest.firsts(HOOK_3_0), lambda: shortest.lasts(HOOK_3_0),
            lambda: trades.walked(3, 0, [0, 1], [])[1],
            lambda: trades.bridge(3, (0, [0, 0]), (1, [0])),
        ):
            kept = list(ask())
            told = ask()
            told.append(None)
            told[0] = None
            self.assertEqual(ask(), kept)

    def test_what_is_handed_in_is_neither_changed_nor_kept(self):
        row, other, many = [0, 0, 1], [0, 1], [PLAIN_3, HOOK_3_0]
        told = [hooks.made(3, row), hanging.stacked(3, many), trades.bridge(3, (0, row), (1, other))]
        self.assertEqual((row, other, many), ([0, 0, 1], [0, 1], [PLAIN_3, HOOK_3_0]))
        kept = [told[0], told[1], list(told[2])]
        for one in (row, other, many):
            one.clear()
        self.assertEqual(told, kept)


if __name__ == "__main__":
    unittest.main()
