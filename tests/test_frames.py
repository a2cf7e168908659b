import itertools
import unittest

from ribbonloft.frames import (
    brackets, carried, from_brackets, is_frame, mirrored, over, plain, through, ties,
)
from tests.support import (
    BAD_PEG_COUNTS, HOOK_2, HOOK_3_0, HOOK_3_1, NO_FRAMES, PLAIN_1, PLAIN_2, PLAIN_3,
    THIRTY_FIGURES, Refusals, all_frames, frame_of, round_of, some_frames,
)

TEXT_10 = "(()((()))())(())()()"


class IsFrameTest(unittest.TestCase):
    def test_frames(self):
        for frame in (PLAIN_1, PLAIN_2, PLAIN_3, HOOK_2, HOOK_3_0, HOOK_3_1):
            self.assertIs(is_frame(frame), True, frame)

    def test_ten_pegs(self):
        self.assertIs(is_frame(tuple(range(10, 20)) + tuple(range(10))), True)
        self.assertIs(is_frame(tuple(peg ^ 1 for peg in range(20))), True)
        self.assertIs(is_frame(frame_of(TEXT_10)), True)

    def test_no_frames(self):
        for why, frame in NO_FRAMES.items():
            with self.subTest(why):
                self.assertIs(is_frame(frame), False)

    def test_all_tuples_of_two_pegs(self):
        frames = all_frames(2)
        for frame in itertools.product(range(-1, 5), repeat=4):
            self.assertIs(is_frame(frame), frame in frames, frame)

    def test_all_orders_of_three_and_four_pegs(self):
        for pegs, many in ((3, 5), (4, 14)):
            frames = set(all_frames(pegs))
            self.assertEqual(len(frames), many)
            for frame in itertools.permutations(range(2 * pegs)):
                self.assertIs(is_frame(frame), frame in frames, frame)


class PlainTest(Refusals, unittest.TestCase):
    def test_plain(self):
        self.assertEqual([plain(1), plain(2), plain(3)], [PLAIN_1, PLAIN_2, PLAIN_3])
        self.assertEqual(plain(10), tuple(range(10, 20)) + tuple(range(10)))

    def test_bad_pegs(self):
        for pegs in BAD_PEG_COUNTS:
            self.refused("BadPegs", plain, pegs)


class TiesTest(unittest.TestCase):
    def test_ties_rise_and_begin_with_the_lesser_peg(self):
        self.assertEqual(ties(PLAIN_1), [(0, 1)])
        self.assertEqual(ties(HOOK_3_0), [(0, 1), (2, 5), (3, 4)])
        self.assertEqual(ties((5, 2, 1, 4, 3, 0)), [(0, 5), (1, 2), (3, 4)])
        for frame in some_frames(10, 20):
            told = ties(frame)
            self.assertEqual(told, sorted(told))
            self.assertEqual(told, [(peg, frame[peg]) for peg in range(20) if peg < frame[peg]])

    def test_a_told_list_that_is_changed_changes_nothing(self):
        told = ties(HOOK_2)
        self.assertIsInstance(told, list)
        told.append("more")
        told[0] = None
        self.assertEqual(ties(HOOK_2), [(0, 1), (2, 3)])

    def test_through(self):
        self.assertEqual(through(PLAIN_1), 1)
        self.assertEqual(through(plain(10)), 10)
        self.assertEqual(through(HOOK_2), 0)
        self.assertEqual(through(HOOK_3_0), 1)
        self.assertEqual(through((5, 2, 1, 4, 3, 0)), 1)
        self.assertEqual(through(tuple(peg ^ 1 for peg in range(20))), 0)
        for frame in some_frames(9, 20):
            self.assertEqual(through(frame), sum(a < 9 <= b for a, b in ties(frame)))


class BracketsTest(Refusals, unittest.TestCase):
    def test_brackets(self):
        told = {
            PLAIN_1: "()", PLAIN_2: "(())", HOOK_2: "()()",
            PLAIN_3: "((()))", HOOK_3_0: "()()()", HOOK_3_1: "(()())",
            (1, 0, 3, 2, 5, 4): "()(())", (5, 2, 1, 4, 3, 0): "(())()",
        }
        for frame, text in told.items():
            self.assertEqual(brackets(frame), text)
            self.assertEqual(from_brackets(text), frame)

    def test_there_and_back(self):
        for pegs in range(1, 6):
            frames = all_frames(pegs)
            texts = [brackets(frame) for frame in frames]
            self.assertEqual(len(set(texts)), len(frames))
            self.assertEqual([from_brackets(text) for text in texts], frames)
            self.assertEqual([frame_of(text) for text in texts], frames)
        self.assertEqual(brackets(from_brackets(TEXT_10)), TEXT_10)
        self.assertEqual(from_brackets(TEXT_10), frame_of(TEXT_10))
        self.assertEqual(from_brackets("(" * 10 + ")" * 10), plain(10))

    def test_signs_in_the_round(self):
        for frame in some_frames(10, 20):
            order = round_of(10)
            signs = ["(" if order.index(peg) < order.index(frame[peg]) else ")" for peg in order]
            self.assertEqual(brackets(frame), "".join(signs))

    def test_texts_of_no_frame(self):
        for text in (
            "", " ", "x", "()x", "(x)", "() ()", "[]", "()\n", " ()", "(x", "x)",
            "( ", "(]", "[)", "((x)", "(()\n", "(", ")", "(()", "())",
            "((", "))", ")(", "())(", "())(()", ")()(", "(" * 11 + ")" * 11, "()" * 11,
            "()" * 10 + "(", "()" * 10 + ")", "(" * 20, ")" * 20, "()" * 1000,
        ):
            self.refused("BadFrame", from_brackets, text)

    def test_all_short_texts(self):
        good = {brackets(frame) for pegs in (1, 2, 3, 4) for frame in all_frames(pegs)}
        self.assertEqual(len(good), 1 + 2 + 5 + 14)
        for size in range(9):
            for signs in itertools.product("()", repeat=size):
                text = "".join(signs)
                if text in good:
                    self.assertEqual(brackets(from_brackets(text)), text)
                else:
                    self.refused("BadFrame", from_brackets, text)


class TurningTest(unittest.TestCase):
    def test_over(self):
        self.assertEqual(over(PLAIN_3), PLAIN_3)
        self.assertEqual(over(HOOK_3_0), HOOK_3_0)
        self.assertEqual(over((1, 0, 3, 2, 5, 4)), (5, 2, 1, 4, 3, 0))

    def test_mirrored(self):
        self.assertEqual(mirrored(PLAIN_3), PLAIN_3)
        self.assertEqual(mirrored(HOOK_3_0), HOOK_3_1)
        self.assertEqual(mirrored((1, 0, 3, 2, 5, 4)), (5, 2, 1, 4, 3, 0))

    def test_a_frame_that_is_unlike_when_turned(self):
        frame = from_brackets("(()())()")
        self.assertEqual(frame, (6, 2, 1, 7, 5, 4, 0, 3))
        self.assertEqual(over(frame), (1, 0, 4, 7, 2, 6, 5, 3))
        self.assertEqual(mirrored(frame), (4, 2, 1, 5, 0, 3, 7, 6))

    def test_twice_is_the_frame(self):
        frames = all_frames(4) + all_frames(5) + some_frames(10, 20)
        self.assertTrue(any(over(frame) != frame for frame in frames))
        self.assertTrue(any(mirrored(frame) != frame for frame in frames))
        for frame in frames:
            self.assertTrue(is_frame(over(frame)))
            self.assertTrue(is_frame(mirrored(frame)))
            self.assertEqual(over(over(frame)), frame)
            self.assertEqual(mirrored(mirrored(frame)), frame)
            self.assertEqual(mirrored(over(frame)), over(mirrored(frame)))

    def test_carried(self):
        self.assertEqual(carried(PLAIN_1, 1), PLAIN_1)
        self.assertEqual(carried(PLAIN_2, 1), HOOK_2)
        self.assertEqual(carried(HOOK_3_1, 1), HOOK_3_0)
        self.assertEqual(carried(PLAIN_3, 1), (1, 0, 3, 2, 5, 4))
        self.assertEqual(carried(PLAIN_3, -1), (5, 2, 1, 4, 3, 0))
        self.assertEqual(carried(PLAIN_3, 10 ** 29 * 6 + 1), (1, 0, 3, 2, 5, 4))
        self.assertEqual(carried(PLAIN_3, -(10 ** 29) * 6 - 1), (5, 2, 1, 4, 3, 0))

    def test_ends_are_so_many_places_later(self):
        for frame in all_frames(3) + some_frames(7, 10):
            size = len(frame)
            order = round_of(size // 2)
            for by in list(range(-2 * size, 2 * size + 1)) + [THIRTY_FIGURES, -THIRTY_FIGURES]:
                turned = carried(frame, by)
                for peg in range(size):
                    new = order[(order.index(peg) + by) % size]
                    self.assertEqual(turned[new], order[(order.index(frame[peg]) + by) % size])

    def test_carried_by_none_and_round(self):
        for frame in all_frames(4):
            self.assertEqual(carried(frame, 0), frame)
            self.assertEqual(carried(frame, 8), frame)
            self.assertEqual(carried(frame, -16), frame)
            self.assertEqual(carried(frame, 11), carried(frame, 3))
            self.assertEqual(carried(frame, -1), carried(frame, 7))
            self.assertEqual(carried(carried(frame, 3), -3), frame)
            self.assertTrue(is_frame(carried(frame, 3)))


class RefusedFramesTest(Refusals, unittest.TestCase):
    def test_bad_frame(self):
        for frame in NO_FRAMES.values():
            for function in (over, mirrored, through, ties, brackets):
                self.refused("BadFrame", function, frame)
            for by in (0, 1, -THIRTY_FIGURES):
                self.refused("BadFrame", carried, frame, by)


if __name__ == "__main__":
    unittest.main()
