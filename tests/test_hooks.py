import itertools
import random
import unittest

from ribbonloft.frames import is_frame, plain
from ribbonloft.hanging import stacked
from ribbonloft.hooks import hook, made
from tests.support import (
    BAD_PEG_COUNTS, HOOK_2, HOOK_3_0, HOOK_3_1, PLAIN_1, PLAIN_3, THIRTY_FIGURES, Refusals,
    all_frames, expected_stack, hook_of, row_comes_to, some_frames, with_hook,
)


def no_hooks(pegs):
    return [-1, pegs - 1, pegs, -pegs, THIRTY_FIGURES, -THIRTY_FIGURES, True, False]


class HookTest(Refusals, unittest.TestCase):
    def test_small(self):
        self.assertEqual(hook(2, 0), HOOK_2)
        self.assertEqual((hook(3, 0), hook(3, 1)), (HOOK_3_0, HOOK_3_1))
        self.assertEqual(hook(4, 1), (4, 2, 1, 7, 0, 6, 5, 3))

    def test_all(self):
        for pegs in range(2, 11):
            for i in range(pegs - 1):
                told = hook(pegs, i)
                self.assertIs(type(told), tuple)
                self.assertEqual(told, hook_of(pegs, i))
                self.assertTrue(is_frame(told))

    def test_bad_hook(self):
        for pegs in range(1, 11):
            for number in no_hooks(pegs):
                self.refused("BadHook", hook, pegs, number)
        self.refused("BadHook", hook, 1, 0)

    def test_bad_pegs_ahead_of_bad_hook(self):
        for pegs in BAD_PEG_COUNTS:
            for number in (0, 1, -1, 30, THIRTY_FIGURES):
                self.refused("BadPegs", hook, pegs, number)


class MadeTest(Refusals, unittest.TestCase):
    def test_none(self):
        for pegs in range(1, 11):
            self.assertEqual(made(pegs, []), (plain(pegs), 0))

    def test_small(self):
        self.assertEqual(made(2, [0]), (HOOK_2, 0))
        self.assertEqual(made(2, [0] * 60), (HOOK_2, 59))
        self.assertEqual(made(3, [0, 1]), ((1, 0, 3, 2, 5, 4), 0))
        self.assertEqual(made(3, [1, 0]), ((5, 2, 1, 4, 3, 0), 0))
        self.assertEqual(made(3, [0, 1, 0]), (HOOK_3_0, 0))
        self.assertEqual(made(3, [1, 0, 0, 1]), (HOOK_3_1, 1))
        self.assertEqual(made(4, [1, 0, 2, 1]), ((3, 2, 1, 0, 7, 6, 5, 4), 0))
        self.assertEqual(made(4, [0, 2, 1, 0, 2]), ((1, 0, 3, 2, 5, 4, 7, 6), 1))
        # A ring of more than two ribbons: the two outer hooks meet the nested ones.
        self.assertEqual(made(4, [1, 0, 2, 1, 0, 2]), ((3, 2, 1, 0, 5, 4, 7, 6), 1))

    def test_all_short_rows(self):
        for pegs, longest in ((2, 6), (3, 6), (4, 5), (5, 4)):
            for many in range(1, longest + 1):
                for row in itertools.product(range(pegs - 1), repeat=many):
                    frames = [hook_of(pegs, i) for i in row]
                    self.assertEqual(made(pegs, list(row)), expected_stack(pegs, frames), row)

    def test_the_quick_way_of_the_tests_is_right(self):
        for frame in all_frames(5) + some_frames(10, 20):
            pegs = len(frame) // 2
            for i in range(pegs - 1):
                self.assertEqual(with_hook(frame, i), expected_stack(pegs, [frame, hook_of(pegs, i)]))

    def test_drawn_rows_of_up_to_sixty(self):
        draw = random.Random(11)
        for pegs in range(2, 11):
            for many in list(range(0, 61, 4)) + [70]:
                row = [draw.randrange(pegs - 1) for _ in range(many)]
                self.assertEqual(made(pegs, row), row_comes_to(pegs, row))
                self.assertEqual(made(pegs, row), stacked(pegs, [hook(pegs, i) for i in row]))

    def test_a_row_in_two_parts(self):
        draw = random.Random(12)
        for pegs in (3, 6, 10):
            row = [draw.randrange(pegs - 1) for _ in range(30)]
            whole, rings = made(pegs, row)
            for at in range(31):
                (one, above), (other, beneath) = made(pegs, row[:at]), made(pegs, row[at:])
                frame, fallen = stacked(pegs, [one, other])
                self.assertEqual((frame, above + beneath + fallen), (whole, rings))

    def test_each_frame_comes_of_some_row(self):
        for pegs in (1, 2, 3, 4, 5):
            found = [plain(pegs)]
            rows = [[]]
            for row in rows:
                for i in range(pegs - 1):
                    frame = made(pegs, row + [i])[0]
                    if frame not in found:
                        found.append(frame)
                        rows.append(row + [i])
            self.assertEqual(sorted(found), all_frames(pegs))

    def test_the_told_pair(self):
        told = made(3, [0, 1])
        self.assertIs(type(told), tuple)
        self.assertIs(type(told[0]), tuple)
        self.assertIs(type(told[1]), int)

    def test_the_handed_list_stays(self):
        row = [0, 1, 1, 0]
        told = made(3, row)
        self.assertEqual(row, [0, 1, 1, 0])
        row.clear()
        self.assertEqual(told, (HOOK_3_0, 1))
        self.assertEqual(made(3, [0, 1, 1, 0]), (HOOK_3_0, 1))
        self.assertEqual(made(3, row), (PLAIN_3, 0))

    def test_bad_hook_at_each_place(self):
        for pegs in (2, 3, 10):
            for number in no_hooks(pegs):
                for at in range(4):
                    row = [0, 0, 0]
                    row.insert(at, number)
                    kept = list(row)
                    self.refused("BadHook", made, pegs, row)
                    self.assertEqual(row, kept)

    def test_one_peg_has_no_hooks(self):
        self.assertEqual(made(1, []), (PLAIN_1, 0))
        for number in (0, 1, -1):
            self.refused("BadHook", made, 1, [number])

    def test_bad_pegs_ahead_of_bad_hook(self):
        for pegs in BAD_PEG_COUNTS:
            for row in ([], [0], [-1], [0, 40], [THIRTY_FIGURES]):
                self.refused("BadPegs", made, pegs, row)


if __name__ == "__main__":
    unittest.main()
