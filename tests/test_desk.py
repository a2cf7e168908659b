import random
import re
import unittest

from ribbonloft.desk import Desk
from ribbonloft.loft import Loft
from ribbonloft.pages import page
from tests import model as second
from tests.model import Model, brackets, entry_word, rows_of, state_of
from tests.support import BAD_PEG_COUNTS, HOOK_3_0, PLAIN_3, Refusals, frame_of
from tests.test_loft import drawn_deed

NUMBER = "(?:0|-?[1-9][0-9]{0,8})"
WORD = "[^ ]+"
SHAPES = {
    "tie": [WORD, "[()]+"], "retie": [WORD, "[()]+"], "drop": [WORD], "stack": [WORD], "unstack": [WORD],
    "hang": [WORD, NUMBER, WORD], "hook": [WORD, NUMBER, NUMBER], "unhang": [WORD, NUMBER],
    "swap": [WORD, NUMBER], "turn": [WORD], "mirror": [WORD], "splice": [WORD, NUMBER, WORD],
    "cut": [WORD, NUMBER, WORD], "undo": [], "redo": [], "comes": [WORD], "row": [WORD],
    "same": [WORD, WORD], "page": [],
}

NO_ORDERS = [
    "", " ", "  ", "\n", "-", "()", "0", "a", "order", "no", "done", "do", "loft", "frames", "stacks",
    "twin", "tie", "tie a", "tie ()()()", "tie a ()()() b", "tie a b ()()()", "tie  a ()()()",
    "tie a  ()()()", " tie a ()()()", "tie a ()()() ", "tie a ()()()\n", "\ntie a ()()()", "Tie a ()()()",
    "TIE a ()()()", "tie a ", "tie  ()()()", "tie a (x)", "tie a [][][]", "tie a ()()()x", "tie a 0",
    "tie a -", "tie a ()_()", "tie a ()()0", "retie", "retie f", "retie f ", "retie f x",
    "retie f ()()() ()", "retie  ()()()", "retie f (,)", "drop", "drop ", "drop a b", "drop  a", " drop a",
    "drop a ", "Drop a", "stack", "stack ", "stack a b", "stack  a", "stack a ", "Stack a", "stack\na",
    "unstack", "unstack ", "unstack s t", "unstack s ", "unstack  s", "hang", "hang s", "hang s 0",
    "hang s 0 f f", "hang s f", "hang s f 0", "hang s x f", "hang s 00 f", "hang s 01 f", "hang s -0 f",
    "hang s +0 f", "hang s +1 f", "hang s -01 f", "hang s --1 f", "hang s - f", "hang s 1- f", "hang s 0. f",
    "hang s  0 f", "hang s 0  f", "hang s 0 f ", " hang s 0 f", "hang  0 f", "hang s 0 ", "hang s  f",
    "hang s 0\n f", "hang s 1000000000 f", "hang s -1000000000 f", "hang s 0000000000 f", "hang s (0) f",
    "hang s 1_0 f", "hang s 0x0 f", "hook", "hook s", "hook s 0", "hook s 0 f", "hook s 0 00", "hook s 0 -0",
    "hook s 0 01", "hook s 0 +1", "hook s 0 1 1", "hook s 0 1000000000", "hook s f 0", "hook s 0 ",
    "hook s 0 0 ", "hook s 0  0", "Hook s 0 0", "hook s 0 0\n", "unhang", "unhang s", "unhang s x",
    "unhang s 00", "unhang s -0", "unhang s 0 0", "unhang s 0 ", "unhang s ", "unhang 0", "swap", "swap s",
    "swap s x", "swap s 00", "swap s -0", "swap s 0 1", "swap s 0 ", "swap 0 s", "swap s 1000000000", "turn",
    "turn ", "turn s s", "turn s ", "turn  s", "Turn s", "mirror", "mirror ", "mirror s s", "mirror s ",
    "MIRROR s", "splice", "splice s", "splice s 0", "splice s 0 ", "splice s a b", "splice s 00 g",
    "splice s 0 g g", "splice s 0  g", "cut", "cut s", "cut s 0", "cut s 0 ", "cut s a b", "cut s -0 t",
    "cut s 0 t t", "cut s 0  t", " cut s 0 t", "undo ", " undo", "undo 1", "Undo", "undo undo", "undo\n",
    "redo ", " redo", "redo 1", "Redo", "redo\n", "comes", "comes ", "comes s t", "comes s ", "Comes s",
    "row", "row ", "row s t", "row s ", "Row s", "rows s", "same", "same s", "same s ", "same  s",
    "same s s s", "same s  s", "same s s ", "Same s s", "page ", " page", "page s", "Page", "PAGE", "page\n",
    "page page",
]


class DeskCase(Refusals, unittest.TestCase):
    def setUp(self):
        self.desk = Desk(3)

    def told(self, *orders):
        """What the desk answers to the last of some orders."""
        return [self.desk.tell(order) for order in orders][-1]

    def all_of_it(self):
        loft = self.desk.loft()
        return state_of(loft), loft.undoable(), loft.redoable()

    def unchanged(self, order, answer):
        kept = self.all_of_it()
        self.assertEqual(self.desk.tell(order), answer, order)
        self.assertEqual(self.all_of_it(), kept, order)


class DeskTest(DeskCase):
    def test_a_new_desk(self):
        for pegs in range(1, 11):
            desk = Desk(pegs)
            self.assertIs(type(desk.loft()), Loft)
            self.assertEqual((desk.loft().pegs(), desk.tell("page")), (pegs, "loft " + str(pegs)))

    def test_bad_pegs(self):
        for pegs in BAD_PEG_COUNTS:
            self.refused("BadPegs", Desk, pegs)

    def test_its_very_loft(self):
        loft = self.desk.loft()
        self.assertIs(self.desk.loft(), loft)
        for order in ("stack s", "undo", "redo", "undo", "tie a ()()()", "no order"):
            self.desk.tell(order)
            self.assertIs(self.desk.loft(), loft)
        self.assertEqual(loft.frame("a"), HOOK_3_0)
        self.assertIsNot(Desk(3).loft(), loft)

    def test_two_desks(self):
        other = Desk(3)
        self.desk.tell("stack s")
        self.assertEqual(other.tell("page"), "loft 3")

    def test_changed_by_hand_between_orders(self):
        self.told("tie a ()()()", "stack s")
        loft = self.desk.loft()
        loft.hang("s", 0, "a")
        loft.hook("s", 1, 1)
        self.assertEqual(self.desk.tell("comes s"), "0 ()(())")
        self.assertEqual(self.desk.tell("undo"), "done")
        self.assertEqual(loft.entries("s"), [("frame", "a", False, False)])
        loft.redo()
        self.assertEqual(self.desk.tell("row s"), "0 1")
        loft.undo()
        self.assertEqual(self.desk.tell("redo"), "done")
        self.assertEqual(self.desk.tell("redo"), "no NothingThere")
        loft.undo()
        self.assertEqual(self.desk.tell("turn s"), "done")
        self.refused("NothingThere", loft.redo)
        loft.unhang("s", 0)
        loft.drop("a")
        self.assertEqual(self.desk.tell("retie a ()()()"), "no NoFrame")
        self.assertEqual(self.desk.tell("page"), page(loft))

    def test_a_twin_of_its_loft_goes_its_own_way(self):
        self.told("tie a ()()()", "stack s")
        twin = self.desk.loft().twin()
        twin.unstack("s")
        self.assertEqual(self.desk.tell("hang s 0 a"), "done")


class OrdersTest(DeskCase):
    def test_deeds_of_frames(self):
        self.assertEqual(self.told("tie a ()()()"), "done")
        self.assertEqual(self.desk.loft().frame("a"), HOOK_3_0)
        self.assertEqual(self.told("retie a ((()))"), "done")
        self.assertEqual(self.desk.loft().frame("a"), PLAIN_3)
        self.assertEqual(self.told("drop a"), "done")
        self.assertEqual(self.desk.loft().frames(), [])

    def test_deeds_of_stacks(self):
        self.assertEqual(self.told("stack s"), "done")
        self.assertEqual(self.desk.loft().stacks(), ["s"])
        self.assertEqual(self.told("unstack s"), "done")
        self.assertEqual(self.desk.loft().stacks(), [])

    def test_deeds_of_entries(self):
        loft = self.desk.loft()
        self.told("tie a ()(())", "stack s")
        self.assertEqual(self.told("hang s 0 a"), "done")
        self.assertEqual(self.told("hook s 1 0"), "done")
        self.assertEqual(self.told("hook s 0 1"), "done")
        self.assertEqual(loft.entries("s"), [("hook", 1), ("frame", "a", False, False), ("hook", 0)])
        self.assertEqual(self.told("swap s 1"), "done")
        self.assertEqual(loft.entries("s"), [("hook", 1), ("hook", 0), ("frame", "a", False, False)])
        self.assertEqual(self.told("turn s"), "done")
        self.assertEqual(loft.entries("s"), [("frame", "a", True, False), ("hook", 0), ("hook", 1)])
        self.assertEqual(self.told("mirror s"), "done")
        self.assertEqual(loft.entries("s"), [("frame", "a", True, True), ("hook", 1), ("hook", 0)])
        self.assertEqual(self.told("cut s 1 t"), "done")
        self.assertEqual(loft.entries("s"), [("frame", "a", True, True)])
        self.assertEqual(loft.entries("t"), [("hook", 1), ("hook", 0)])

    def test_unhang_is_answered_with_the_entry(self):
        self.told("tie abc ()(())", "stack s", "hang s 0 abc", "turn s", "hang s 0 abc", "mirror s")
        self.told("hang s 0 abc", "turn s", "hang s 0 abc", "hook s 0 1")
        answers = [self.told("unhang s 0") for _ in range(5)]
        self.assertEqual(answers, ["1", "abc", "abc~", "abc/~", "abc/"])
        self.assertEqual(self.told("unhang s 0"), "no NoPlace")

    def test_splice_is_answered_with_the_rings(self):
        self.told("stack s", "hook s 0 0", "hook s 0 0", "hook s 2 1")
        self.assertEqual(self.told("splice s 0 a"), "1")
        self.assertEqual(self.told("splice s 0 b"), "0")
        self.assertEqual(self.told("page"), "loft 3\nframe a ()()()\nframe b ()(())\nstack s 1 b")

    def test_undo_and_redo(self):
        self.told("stack s", "hook s 0 0")
        self.assertEqual(self.told("undo"), "done")
        self.assertEqual(self.told("comes s"), "0 ((()))")
        self.assertEqual(self.told("redo"), "done")
        self.assertEqual(self.told("comes s"), "0 ()()()")
        self.assertEqual(self.told("redo"), "no NothingThere")
        self.assertEqual([self.told("undo") for _ in range(3)], ["done", "done", "no NothingThere"])

    def test_questions(self):
        self.told("tie a ()()()", "stack s", "stack t", "hang s 0 a", "hook s 1 0", "hook s 2 1", "hook t 0 0")
        for order, answer in (
            ("comes s", "1 ()(())"), ("comes t", "0 ()()()"), ("row s", "0 1"), ("row t", "0"),
            ("same s s", "yes"), ("same s t", "no"), ("same t s", "no"),
            ("page", "loft 3\nframe a ()()()\nstack s 0 a 0 1\nstack t 0 0"),
        ):
            self.unchanged(order, answer)
        self.told("stack u")
        self.unchanged("row u", "-")
        self.unchanged("comes u", "0 ((()))")
        self.told("hook u 0 0")
        self.unchanged("same t u", "yes")
        self.told("hook u 0 0")
        self.unchanged("same t u", "no")
        self.unchanged("comes u", "1 ()()()")

    def test_fallen_rings_are_counted(self):
        self.told("stack s", "hook s 0 0", "hook s 0 0", "hook s 0 0", "splice s 0 a")
        self.unchanged("comes s", "2 ()()()")

    def test_longer_rows(self):
        self.desk = Desk(10)
        self.told("stack s", "hook s 0 8", "hook s 1 0", "hook s 2 4")
        self.unchanged("row s", "0 4 8")


class RefusedOrdersTest(DeskCase):
    def setUp(self):
        self.desk = Desk(3)
        self.told("tie f ()()()", "tie g ((()))", "stack s", "stack t", "hang s 0 f", "hang s 1 f")
        self.told("hook t 0 1", "undo")

    def test_each_refusal(self):
        for order, name in (
            ("tie F ()()()", "BadName"), ("tie abcdefghi ()()()", "BadName"), ("tie f1 ()()()", "BadName"),
            ("tie ( ()()()", "BadName"), ("tie -1 ()()()", "BadName"), ("tie f\n ()()()", "BadName"),
            ("tie f ()()()", "Taken"), ("tie h ()()", "BadFrame"), ("tie h ()()()()", "BadFrame"),
            ("tie h (((", "BadFrame"), ("tie h )))(((", "BadFrame"), ("tie h ())(()", "BadFrame"),
            ("tie h (", "BadFrame"), ("tie h )", "BadFrame"), ("tie h " + "()" * 11, "BadFrame"),
            ("tie h " + "(" * 1000, "BadFrame"), ("retie h ()()()", "NoFrame"), ("retie f ()()", "BadFrame"),
            ("retie f ())(()", "BadFrame"), ("retie F )", "NoFrame"), ("drop h", "NoFrame"),
            ("drop s", "NoFrame"), ("drop (", "NoFrame"), ("drop f", "Hangs"), ("drop f\n", "NoFrame"),
            ("stack S", "BadName"), ("stack s1", "BadName"), ("stack ()", "BadName"), ("stack s", "Taken"),
            ("unstack u", "NoStack"), ("unstack f", "NoStack"), ("unstack 0", "NoStack"),
            ("hang u 0 f", "NoStack"), ("hang s 0 h", "NoFrame"), ("hang s 3 f", "NoPlace"),
            ("hang s -1 f", "NoPlace"), ("hang s 999999999 f", "NoPlace"), ("hang s -999999999 f", "NoPlace"),
            ("hang s 0 0", "NoFrame"), ("hook u 0 0", "NoStack"), ("hook s 0 2", "BadHook"),
            ("hook s 0 -1", "BadHook"), ("hook s 3 0", "NoPlace"), ("hook s -1 0", "NoPlace"),
            ("hook s 0 999999999", "BadHook"), ("hook s 0 -999999999", "BadHook"), ("unhang u 0", "NoStack"),
            ("unhang s 2", "NoPlace"), ("unhang s -1", "NoPlace"), ("unhang t 0", "NoPlace"),
            ("swap u 0", "NoStack"), ("swap s 1", "NoPlace"), ("swap s -1", "NoPlace"),
            ("swap t 0", "NoPlace"), ("turn u", "NoStack"), ("turn S", "NoStack"), ("mirror u", "NoStack"),
            ("mirror -", "NoStack"), ("splice u 0 h", "NoStack"), ("splice s 1 h", "NoPlace"),
            ("splice s -1 h", "NoPlace"), ("splice s 0 H", "BadName"), ("splice s 0 g", "Taken"),
            ("cut u 0 v", "NoStack"), ("cut s 3 v", "NoPlace"), ("cut s -1 v", "NoPlace"),
            ("cut s 0 V", "BadName"), ("cut s 0 t", "Taken"), ("cut s 0 s", "Taken"), ("comes u", "NoStack"),
            ("comes f", "NoStack"), ("row u", "NoStack"), ("row ~", "NoStack"), ("same s u", "NoStack"),
            ("same u s", "NoStack"), ("same u u", "NoStack"),
        ):
            self.unchanged(order, "no " + name)

    def test_in_the_order_in_which_they_are_told(self):
        for order, name in (
            ("tie F (", "BadName"), ("tie f (", "Taken"), ("tie f ()()", "Taken"), ("retie h (", "NoFrame"),
            ("hang u -1 h", "NoStack"), ("hang s -1 h", "NoFrame"), ("hook u -1 9", "NoStack"),
            ("hook s -1 9", "BadHook"), ("splice u 9 G", "NoStack"), ("splice s 9 G", "NoPlace"),
            ("cut u 9 G", "NoStack"), ("cut s 9 G", "NoPlace"),
        ):
            self.unchanged(order, "no " + name)

    def test_full(self):
        for name in "abcdehijkl":
            self.assertEqual(self.told("tie " + name + " ()()()"), "done")
        self.unchanged("tie m ()()()", "no Full")
        self.unchanged("tie m ()()", "no BadFrame")
        self.unchanged("splice s 0 m", "no Full")
        for name in "abcdef":
            self.assertEqual(self.told("stack " + name), "done")
        self.unchanged("stack g", "no Full")
        self.unchanged("cut s 0 g", "no Full")
        for _ in range(22):
            self.assertEqual(self.told("hook s 0 0"), "done")
        self.unchanged("hook s 0 0", "no Full")
        self.unchanged("hang s 0 f", "no Full")

    def test_nothing_there(self):
        self.told("redo")
        self.unchanged("redo", "no NothingThere")
        self.told(*["undo"] * 7)
        self.unchanged("undo", "no NothingThere")

    def test_texts_that_are_no_orders(self):
        for text in NO_ORDERS:
            self.unchanged(text, "no order")

    def test_a_refused_order_keeps_what_can_be_done_again(self):
        self.unchanged("drop f", "no Hangs")
        self.unchanged("hello", "no order")
        self.assertEqual(self.told("redo"), "done")
        self.assertEqual(self.told("comes t"), "0 (()())")


class DrawnOrdersTest(DeskCase):
    def expected(self, model, text):
        """The answer to a text, by the model, which is changed by the orders that are done."""
        word, *rest = text.split(" ")
        if word not in SHAPES or not re.fullmatch(" ".join([word] + SHAPES[word]), text):
            return "no order"
        if word in ("undo", "redo"):
            if not (model.past if word == "undo" else model.future):
                return "no NothingThere"
            getattr(model, word)()
            return "done"
        if word == "page":
            return second.page(model)
        if word in ("comes", "row", "same"):
            if not all(stack in model.stacks for stack in rest):
                return "no NoStack"
            frame, rings = model.comes(rest[0])
            if word == "same":
                return "yes" if model.comes(rest[1]) == (frame, rings) else "no"
            if word == "row":
                return " ".join(str(i) for i in rows_of(model.pegs)[frame]) or "-"
            return str(rings) + " " + brackets(frame)
        handed = [
            int(what) if shape == NUMBER else (frame_or_none(what) if shape != WORD else what)
            for shape, what in zip(SHAPES[word], rest)
        ]
        deed = (word, *handed)
        due = model.due(deed)
        if due:
            return "no " + due[0]
        told = model.do(deed)
        return "done" if told is None else entry_word(told) if word == "unhang" else str(told)

    def drawn_order(self, draw, model):
        kind = draw.randrange(8)
        stacks = sorted(model.stacks) * 2 + ["q"]
        if kind == 0:
            return draw.choice(["undo", "undo", "redo", "page"])
        if kind == 1:
            return draw.choice(["comes ", "row "]) + draw.choice(stacks)
        if kind == 2:
            return "same " + draw.choice(stacks) + " " + draw.choice(stacks)
        deed = drawn_deed(draw, model)
        text = " ".join(brackets(what) if isinstance(what, tuple) else str(what) for what in deed)
        if kind == 3:
            at = draw.randrange(len(text))
            text = text[:at] + draw.choice(["", " ", text[at] * 2, draw.choice("a0-()A~/\n#")]) + text[at + 1:]
        return text

    def test_drawn_orders(self):
        for seed, pegs in enumerate([1, 2, 3, 3, 4, 5]):
            draw = random.Random(seed + 40)
            model, self.desk = Model(pegs), Desk(pegs)
            answers = set()
            for _ in range(700):
                text = self.drawn_order(draw, model)
                answer = self.expected(model, text)
                self.assertEqual(self.desk.tell(text), answer, text)
                self.assertEqual(state_of(self.desk.loft()), model.has())
                answers.add(answer if answer.startswith("no") else "")
            self.assertGreater(len(answers), 7)
            self.assertEqual(self.desk.tell("page"), second.page(model))

    def test_the_list_of_no_orders(self):
        for text in NO_ORDERS:
            self.assertEqual(self.expected(Model(3), text), "no order", text)


def frame_or_none(text):
    rest = text
    while "()" in rest:
        rest = rest.replace("()", "")
    return () if rest else frame_of(text)


if __name__ == "__main__":
    unittest.main()
