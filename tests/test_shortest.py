import itertools
import unittest

from ribbonloft.frames import mirrored, over, plain
from ribbonloft.shortest import firsts, lasts, length, seams, shortest_row
from tests.support import (
    HOOK_2, HOOK_3_0, HOOK_3_1, NO_FRAMES, PLAIN_1, Refusals, all_frames, expected_stack, hook_of,
    plain_of, row_comes_to, some_frames, with_hook,
)

NESTED_4 = (3, 2, 1, 0, 7, 6, 5, 4)
BESIDE_10 = tuple(peg ^ 1 for peg in range(20))
NESTED_10 = tuple(range(9, -1, -1)) + tuple(range(19, 9, -1))


def walk_by_lengths(pegs):
    """For each frame (first shortest row, beginnings, ends), by walking rows of all lengths.

    A frame is met for the first time by its shortest rows; of these the first one goes on
    from the first one of the frame above its last hook.
    """
    known = {}
    level = {plain_of(pegs): ((), set(), set())}
    while level:
        known.update(level)
        longer = {}
        for frame, (row, begins, ends) in level.items():
            for i in range(pegs - 1):
                other = with_hook(frame, i)[0]
                if other in known:
                    continue
                best, others, last = longer.get(other, (row + (i,), set(), set()))
                longer[other] = (min(best, row + (i,)), others | (begins or {i}), last | {i})
        level = longer
    return known


def all_shortest_rows(pegs):
    """For each frame all of its shortest rows, of all rows that there are."""
    found = {}
    many = 0
    left = set(all_frames(pegs))
    while left:
        met = {}
        for row in itertools.product(range(pegs - 1), repeat=many):
            frame, rings = row_comes_to(pegs, row)
            if frame in left:
                met.setdefault(frame, []).append((list(row), rings))
        found.update(met)
        left -= set(met)
        many += 1
    return found


class SeamsTest(Refusals, unittest.TestCase):
    def test_small(self):
        self.assertEqual(seams(PLAIN_1), [])
        self.assertEqual(seams(HOOK_2), [2])
        self.assertEqual(seams(HOOK_3_0), [2, 0])
        self.assertEqual(seams(HOOK_3_1), [0, 2])
        self.assertEqual(seams((1, 0, 3, 2, 5, 4)), [2, 2])
        self.assertEqual(seams(NESTED_4), [2, 4, 2])
        self.assertEqual(seams(plain(10)), [0] * 9)
        self.assertEqual(seams(BESIDE_10), [2, 0] * 4 + [2])
        self.assertEqual(seams(NESTED_10), [2, 4, 6, 8, 10, 8, 6, 4, 2])

    def test_by_the_words(self):
        for frame in all_frames(5) + all_frames(6) + some_frames(9, 20) + some_frames(10, 40):
            pegs = len(frame) // 2
            passes = []
            for seam in range(pegs - 1):
                on_the_left = [peg for peg in range(2 * pegs) if peg % pegs <= seam]
                passes.append(len([peg for peg in on_the_left if frame[peg] not in on_the_left]))
            self.assertEqual(seams(frame), passes)
            self.assertEqual(length(frame) * 2, sum(passes))

    def test_length(self):
        self.assertEqual(length(PLAIN_1), 0)
        self.assertEqual(length(HOOK_2), 1)
        self.assertEqual(length((1, 0, 3, 2, 5, 4)), 2)
        self.assertEqual(length(NESTED_4), 4)
        self.assertEqual(length(plain(10)), 0)
        self.assertEqual(length(BESIDE_10), 5)
        self.assertEqual(length(NESTED_10), 25)
        self.assertIs(type(length(HOOK_2)), int)


class ShortestRowTest(unittest.TestCase):
    def test_small(self):
        self.assertEqual(shortest_row(PLAIN_1), [])
        self.assertEqual(shortest_row(plain(10)), [])
        self.assertEqual(shortest_row(HOOK_2), [0])
        self.assertEqual(shortest_row((1, 0, 3, 2, 5, 4)), [0, 1])
        self.assertEqual(shortest_row((5, 2, 1, 4, 3, 0)), [1, 0])
        self.assertEqual(shortest_row(NESTED_4), [1, 0, 2, 1])
        self.assertEqual(shortest_row(BESIDE_10), [0, 2, 4, 6, 8])
        for pegs in range(2, 11):
            for i in range(pegs - 1):
                self.assertEqual(shortest_row(hook_of(pegs, i)), [i])

    def test_the_longest(self):
        row = shortest_row(NESTED_10)
        self.assertEqual(len(row), 25)
        self.assertEqual(row_comes_to(10, row), (NESTED_10, 0))
        self.assertEqual(expected_stack(10, [hook_of(10, i) for i in row]), (NESTED_10, 0))

    def test_among_all_rows(self):
        for pegs in (1, 2, 3, 4):
            for frame, rows in all_shortest_rows(pegs).items():
                self.assertEqual(length(frame), len(rows[0][0]))
                self.assertEqual(shortest_row(frame), min(rows)[0])
                self.assertEqual(firsts(frame), sorted({row[0] for row, _ in rows if row}))
                self.assertEqual(lasts(frame), sorted({row[-1] for row, _ in rows if row}))
                for row, rings in rows:
                    self.assertEqual(rings, 0)
                    self.assertEqual([2 * row.count(i) for i in range(pegs - 1)], seams(frame))

    def test_every_frame_of_one_to_ten_pegs(self):
        for pegs in range(1, 11):
            known = walk_by_lengths(pegs)
            for frame, (row, begins, ends) in known.items():
                self.assertEqual(shortest_row(frame), list(row))
                self.assertEqual(firsts(frame), sorted(begins))
                self.assertEqual(lasts(frame), sorted(ends))
                self.assertEqual(seams(frame), [2 * row.count(i) for i in range(pegs - 1)])
                self.assertEqual(length(frame), len(row))
        self.assertEqual(len(known), 16796)

    def test_the_row_comes_to_the_frame_without_rings(self):
        for frame in all_frames(6) + some_frames(7, 20) + some_frames(10, 5):
            pegs = len(frame) // 2
            row = shortest_row(frame)
            frames = [hook_of(pegs, i) for i in row] or [plain_of(pegs)]
            self.assertEqual(expected_stack(pegs, frames), (frame, 0))

    def test_turned_frames(self):
        for frame in all_frames(6) + some_frames(10, 60):
            pegs = len(frame) // 2
            self.assertEqual(firsts(over(frame)), lasts(frame))
            self.assertEqual(length(over(frame)), length(frame))
            self.assertEqual(seams(mirrored(frame)), seams(frame)[::-1])
            self.assertEqual(lasts(mirrored(frame)), [pegs - 2 - i for i in lasts(frame)][::-1])


class FirstsAndLastsTest(unittest.TestCase):
    def test_small(self):
        self.assertEqual((firsts(PLAIN_1), lasts(PLAIN_1)), ([], []))
        self.assertEqual((firsts(plain(10)), lasts(plain(10))), ([], []))
        self.assertEqual((firsts(HOOK_3_1), lasts(HOOK_3_1)), ([1], [1]))
        frame = (1, 0, 3, 2, 5, 4)
        self.assertEqual((firsts(frame), lasts(frame)), ([0], [1]))
        self.assertEqual((firsts(BESIDE_10), lasts(BESIDE_10)), ([0, 2, 4, 6, 8],) * 2)
        self.assertEqual((firsts(NESTED_10), lasts(NESTED_10)), ([4], [4]))
        # One hook of the upper rail against two of the lower one.
        frame = (3, 2, 1, 0, 5, 4, 7, 6)
        self.assertEqual((firsts(frame), lasts(frame)), ([1], [0, 2]))


class ToldListsAndRefusalsTest(Refusals, unittest.TestCase):
    def test_told_lists_that_are_changed_change_nothing(self):
        for function in (seams, shortest_row, firsts, lasts):
            for frame in (plain(3), HOOK_3_0, NESTED_10):
                told = function(frame)
                kept = list(told)
                self.assertIs(type(told), list)
                told.append(7)
                told[0] = None
                self.assertEqual(function(frame), kept)
                self.assertIsNot(function(frame), function(frame))

    def test_bad_frame(self):
        for frame in NO_FRAMES.values():
            for function in (seams, length, shortest_row, firsts, lasts):
                self.refused("BadFrame", function, frame)


if __name__ == "__main__":
    unittest.main()
