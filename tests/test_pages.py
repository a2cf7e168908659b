import random
import unittest

from ribbonloft.loft import Loft
from ribbonloft.pages import page, read
from tests import model as second
from tests.model import Model, first_wrong_row, state_of
from tests.support import HOOK_3_0, HOOK_3_1, PLAIN_3, Refusals, frame_of, some_frames
from tests.test_loft import ALL_DEEDS, drawn_deed

ROWS = [
    "loft 4",
    "frame a (((())))",
    "frame b ()()()()",
    "frame cc (()())()",
    "stack a 0",
    "stack b 12 0 1 2 a a/ b~ cc/~",
    "stack c 0 cc",
    "stack loft 999999999 cc/~ 2",
]
WHOLE = "\n".join(ROWS)

WRONG_AT_EACH_ROW = [
    "", " ", "x", "loft", "frame", "stack", "loft 4", "loft 4 4", "frame a", "frame b", "stack a",
    "stack b", "hang a 0 b", "Loft 4", "Frame zz (((())))", "Stack zz 0", "LOFT 4", "page",
    "frames zz (((())))", "stacks zz 0", "stack zz", "frame zz",
]
WRONG_FIRST = [
    "loft 0", "loft 11", "loft 04", "loft 010", "loft -1", "loft -4", "loft +4", "loft x", "loft  4",
    " loft 4", "loft 4 ", "loft 4 5", "loft4", "loft (4)", "loft 1000000000", "loft 0000000004",
    "loft 100", "loft 4.", "loft 4a", "loft 1 0", "frame a (((())))", "stack a 0", "loft ",
]
WRONG_FRAMES = [
    "frame  b ()()()()", " frame b ()()()()", "frame b ()()()() ", "frame b  ()()()()", "frame b ()()()",
    "frame b ()()()()()", "frame b ((((", "frame b ))))((((", "frame b ()()())(", "frame b ", "frame  ()()()()",
    "frame b ()()()()x", "frame b [][][][]", "frame b ()() ()()", "frame b ()()()() a", "frame B ()()()()",
    "frame b1 ()()()()", "frame bbbbbbbbb ()()()()", "frame b/ ()()()()", "frame 1 ()()()()",
    "frame aA ()()()()", "frame b~ ()()()()", "Frame b ()()()()", "framed b ()()()()", "frame b 0",
    "frame a ()()()()", "frame a (((())))",
]
WRONG_STACKS = [
    "stack b", "stack b ", "stack  b 12", " stack b 12", "stack b 12 ", "stack b  12", "stack b 12  0",
    "stack b 12 0 ", "stack b 012", "stack b 00", "stack b -1", "stack b -0", "stack b +1", "stack b x",
    "stack b 1000000000", "stack b 0000000001", "stack b 12 3", "stack b 12 4", "stack b 12 -1",
    "stack b 12 00", "stack b 12 01", "stack b 12 d", "stack b 12 A", "stack b 12 a//", "stack b 12 a~~",
    "stack b 12 a~/", "stack b 12 /a", "stack b 12 ~", "stack b 12 /", "stack b 12 /~", "stack b 12 0/",
    "stack b 12 0~", "stack b 12 a/~a", "stack b 12 a 0 a d", "stack b 12 c", "stack b 12 ()()()()",
    "stack b 12 " + " ".join(["0"] * 25), "stack b 12 " + " ".join(["a/"] * 26), "stack b 12 999999999",
    "stack b 12 1000000000", "stack b 12 a,b", "stack B 12", "stack bbbbbbbbb 12", "stack b/ 12",
    "stack 1 12", "stack a 12", "stack  12", "stack b1 12", "Stack b 12", "stacks b 12", "stack b 12 a/ ~",
    "stack b a", "stack b 12 0x", "stack b 12 loft", "stack b 12 -", "stack b (12)",
]


def with_row(at, row):
    return "\n".join(ROWS[:at] + [row] + ROWS[at + 1:])


class PagesCase(Refusals, unittest.TestCase):
    def wrong(self, text, at):
        self.assertEqual(self.refused("BadPage", read, text).at, at, text)
        self.assertEqual(first_wrong_row(text), at, text)

    def right(self, text):
        loft = read(text)
        self.assertEqual(page(loft), text)
        self.assertIs(type(loft), Loft)
        self.assertEqual((loft.undoable(), loft.redoable()), (0, 0))
        self.assertIsNone(first_wrong_row(text))
        return loft


class PageTest(PagesCase):
    def test_a_new_loft(self):
        for pegs in range(1, 11):
            self.assertEqual(page(Loft(pegs)), "loft " + str(pegs))

    def test_each_kind_of_row(self):
        loft = Loft(3)
        loft.tie("b", HOOK_3_0)
        loft.tie("a", PLAIN_3)
        loft.tie("aa", (1, 0, 3, 2, 5, 4))
        loft.stack("t")
        loft.stack("b")
        self.assertEqual(
            page(loft), "loft 3\nframe a ((()))\nframe aa ()(())\nframe b ()()()\nstack b 0\nstack t 0"
        )
        loft.hang("t", 0, "b")
        loft.turn("t")
        loft.hook("t", 0, 1)
        self.assertEqual(page(loft).split("\n")[-1], "stack t 0 1 b/")
        loft.mirror("t")
        self.assertEqual(page(loft).split("\n")[-1], "stack t 0 0 b/~")
        loft.turn("t")
        self.assertEqual(page(loft).split("\n")[-1], "stack t 0 b~ 0")
        loft.hook("t", 2, 0)
        loft.splice("t", 1, "c")
        self.assertEqual(
            page(loft).split("\n")[3:], ["frame b ()()()", "frame c ()()()", "stack b 0", "stack t 1 b~ c"]
        )

    def test_a_loft_of_stacks_only(self):
        loft = Loft(2)
        loft.stack("a")
        self.assertEqual(page(loft), "loft 2\nstack a 0")

    def test_pages_of_all_that_a_loft_comes_by(self):
        loft, model = Loft(3), Model(3)
        for deed in ALL_DEEDS:
            loft.do(deed)
            model.do(deed)
            self.assertEqual(page(loft), second.page(model))
        for _ in ALL_DEEDS:
            loft.undo()
            model.undo()
            self.assertEqual(page(loft), second.page(model))


class ReadTest(PagesCase):
    def test_a_whole_page(self):
        loft = self.right(WHOLE)
        self.assertEqual(loft.pegs(), 4)
        self.assertEqual((loft.frames(), loft.stacks()), (["a", "b", "cc"], ["a", "b", "c", "loft"]))
        self.assertEqual(loft.frame("cc"), frame_of("(()())()"))
        self.assertEqual([loft.fallen(name) for name in loft.stacks()], [0, 12, 0, 999999999])
        self.assertEqual(loft.entries("b"), [
            ("hook", 0), ("hook", 1), ("hook", 2), ("frame", "a", False, False), ("frame", "a", True, False),
            ("frame", "b", False, True), ("frame", "cc", True, True),
        ])
        self.assertEqual(loft.entries("a"), [])
        self.assertEqual(loft.held("cc"), ["b", "c", "loft"])

    def test_nothing_to_take_back_or_to_do_again(self):
        loft = self.right(WHOLE)
        self.refused("NothingThere", loft.undo)
        self.refused("NothingThere", loft.redo)
        loft.hook("a", 0, 1)
        loft.undo()
        self.assertEqual(page(loft), WHOLE)
        self.refused("NothingThere", loft.undo)

    def test_the_loft_that_is_read_takes_deeds(self):
        loft = self.right(WHOLE)
        self.refused("Taken", loft.tie, "cc", frame_of("()()()()"))
        self.assertEqual(self.refused("Hangs", loft.drop, "cc").by, "b")
        loft.retie("cc", frame_of("()()()()"))
        self.assertEqual(loft.comes("c"), (frame_of("()()()()"), 0))
        twin = read(WHOLE)
        self.assertEqual(page(twin), WHOLE)

    def test_fallen_rings_beyond_nine_figures(self):
        loft = self.right("loft 2\nstack a 999999999 0 0")
        self.assertEqual(loft.comes("a"), ((1, 0, 3, 2), 1000000000))
        self.assertEqual(loft.splice("a", 0, "b"), 1)
        self.assertEqual(page(loft), "loft 2\nframe b ()()\nstack a 1000000000 b")

    def test_small_pages(self):
        for pegs in range(1, 11):
            self.right("loft " + str(pegs))
            self.right("loft " + str(pegs) + "\nstack a 0")
            self.right("loft " + str(pegs) + "\nframe abcdefgh " + "()" * pegs + "\nstack z 7 abcdefgh/~")
        self.right("loft 1\nframe frame ()\nstack frame 0 frame frame/ frame~ frame/~")
        self.wrong("loft 1\nstack a 0 0", 1)
        self.right("loft 2\nstack a 0 0")
        self.wrong("loft 2\nstack a 0 1", 1)
        self.right("loft 10\nstack a 0 8")
        self.wrong("loft 10\nstack a 0 9", 1)

    def test_empty_text_and_line_feeds(self):
        self.wrong("", 0)
        self.wrong("\n", 0)
        self.wrong("\n\n", 0)
        self.wrong("\n" + WHOLE, 0)
        self.wrong(WHOLE + "\n", 8)
        self.wrong(WHOLE + "\n\n", 8)
        self.wrong("loft 3\n", 1)
        for at in range(1, len(ROWS)):
            self.wrong("\n".join(ROWS[:at] + [""] + ROWS[at:]), at)

    def test_the_first_row(self):
        for row in WRONG_FIRST + [row for row in WRONG_AT_EACH_ROW if row != "loft 4"]:
            self.wrong(row, 0)
            self.wrong(with_row(0, row), 0)

    def test_each_way_at_frames(self):
        for row in WRONG_AT_EACH_ROW + WRONG_FRAMES:
            self.wrong(with_row(2, row), 2)
            self.wrong(with_row(3, row.replace("frame b ", "frame cc ")), 3)
            self.wrong("\n".join(ROWS[:2] + [row]), 2)

    def test_each_way_at_stacks(self):
        for row in WRONG_AT_EACH_ROW + WRONG_STACKS:
            self.wrong(with_row(5, row), 5)
            self.wrong(with_row(6, row.replace("stack b ", "stack c ")), 6)
            self.wrong("\n".join(ROWS[:5] + [row]), 5)

    def test_the_first_of_several_wrong_rows(self):
        for at in range(len(ROWS)):
            for later in range(at + 1, len(ROWS)):
                rows = list(ROWS)
                rows[at], rows[later] = "frame", "stack"
                self.wrong("\n".join(rows), at)
                rows[at] = ROWS[at] + " "
                self.wrong("\n".join(rows), at)

    def test_names_out_of_order_or_twice(self):
        self.wrong("loft 1\nframe b ()\nframe a ()", 2)
        self.wrong("loft 1\nframe a ()\nframe a ()", 2)
        self.wrong("loft 1\nframe a ()\nframe c ()\nframe b ()", 3)
        self.wrong("loft 1\nframe b ()\nframe aa ()", 2)
        self.right("loft 1\nframe a ()\nframe aa ()\nframe b ()")
        self.wrong(with_row(2, "frame cc ()()()()"), 3)
        self.wrong(with_row(2, "frame cd ()()()()"), 3)
        self.wrong(with_row(5, "stack c 12"), 6)
        self.wrong(with_row(5, "stack d 12"), 6)
        self.wrong("loft 1\nstack b 0\nstack a 0", 2)
        self.wrong("loft 1\nstack a 0\nstack a 0", 2)
        self.right("loft 1\nframe b ()\nstack a 0\nstack b 0")
        self.wrong("loft 1\nstack a 0\nstack c 0\nstack b 0", 3)

    def test_a_frame_behind_a_stack(self):
        self.wrong("loft 1\nstack a 0\nframe a ()", 2)
        self.wrong("loft 1\nframe a ()\nstack a 0\nframe b ()", 3)
        self.wrong("loft 1\nstack a 0 b\nframe b ()", 1)

    def test_one_too_many(self):
        names = "abcdefghijklm"
        frames = ["frame " + name + " (())" for name in names]
        stacks = ["stack " + name + " 0" for name in names]
        self.right("\n".join(["loft 2"] + frames[:12] + stacks[:8]))
        self.wrong("\n".join(["loft 2"] + frames[:13]), 13)
        self.wrong("\n".join(["loft 2"] + frames[:13] + stacks[:9]), 13)
        self.wrong("\n".join(["loft 2"] + stacks[:9]), 9)
        self.wrong("\n".join(["loft 2"] + frames[:12] + stacks[:9]), 21)
        self.right("loft 2\nframe a (())\nstack s 0" + " a/" * 12 + " 0" * 12)
        self.wrong("loft 2\nframe a (())\nstack s 0" + " a/" * 12 + " 0" * 13, 2)
        self.wrong("loft 2\nframe a (())\nstack s 0" + " a" * 25, 2)

    def test_numbers_of_many_figures(self):
        self.right("loft 2\nstack s 123456789")
        self.wrong("loft 2\nstack s 1234567890", 1)
        self.wrong("loft 2\nstack s " + "9" * 30, 1)
        self.wrong("loft 2\nstack s 0 " + "9" * 10, 1)
        self.wrong("loft " + "1" * 10, 0)
        self.wrong("loft 2\nstack s " + "9" * 6000, 1)

    def test_there_and_back(self):
        for seed, pegs in enumerate([1, 2, 3, 4, 4]):
            draw = random.Random(seed)
            loft, model = Loft(pegs), Model(pegs)
            for _ in range(200):
                deed = drawn_deed(draw, model)
                if not model.due(deed):
                    loft.do(deed)
                    model.do(deed)
                other = self.right(page(loft))
                self.assertEqual(state_of(other), state_of(loft))
                self.assertEqual(page(loft), second.page(model))
        loft = Loft(10)
        for name, frame in zip("abcdefghijkl", some_frames(10, 12)):
            loft.tie(name, frame)
        self.assertEqual(state_of(self.right(page(loft))), state_of(loft))

    def test_drawn_changes_of_a_page(self):
        draw = random.Random(31)
        signs = "".join(chr(k) for k in range(32, 127) if k != 37)
        right = 0
        for _ in range(12000):
            text = WHOLE
            for _ in range(draw.choice([1, 1, 2])):
                at = draw.randrange(len(text))
                new = draw.choice([draw.choice(signs), draw.choice("abc /~()0129\n"), "", text[at] * 2])
                text = text[:at] + new + text[at + 1:]
            at = first_wrong_row(text)
            if at is None:
                self.right(text)
                right += 1
            else:
                self.wrong(text, at)
        self.assertGreater(right, 500)

    def test_drawn_orders_of_rows(self):
        draw = random.Random(32)
        for _ in range(1500):
            rows = list(ROWS)
            one, other = draw.randrange(len(rows)), draw.randrange(len(rows))
            rows[one], rows[other] = rows[other], rows[one]
            if draw.randrange(2):
                del rows[draw.randrange(len(rows))]
            text = "\n".join(rows)
            at = first_wrong_row(text)
            if at is None:
                self.right(text)
            else:
                self.wrong(text, at)

    def test_pages_of_one_loft_do_not_hang_together(self):
        one, other = read(WHOLE), read(WHOLE)
        one.hook("a", 0, 0)
        one.retie("a", frame_of("()()()()"))
        self.assertEqual(page(other), WHOLE)
        loft = Loft(3)
        loft.tie("a", HOOK_3_1)
        copied = read(page(loft))
        copied.drop("a")
        self.assertEqual(loft.frames(), ["a"])


if __name__ == "__main__":
    unittest.main()
