import itertools
import unittest

from ribbonloft.frames import is_frame, over, plain
from ribbonloft.hanging import closed, hung, stacked
from tests.support import (
    BAD_PEG_COUNTS, HOOK_2, HOOK_3_0, HOOK_3_1, NO_FRAMES, PLAIN_1, PLAIN_2, PLAIN_3,
    Refusals, all_frames, expected_stack, pieces, some_frames,
)


def folded(frames, at):
    """The row with the two neighbours at the place taken first, then the rest from the end."""
    row = list(frames)
    rings = 0
    while len(row) > 1:
        at = min(at, len(row) - 2)
        frame, fallen = hung(row[at], row[at + 1])
        row[at:at + 2] = [frame]
        rings += fallen
        at = len(row)
    return row[0], rings


class HungTest(Refusals, unittest.TestCase):
    def test_without_rings(self):
        self.assertEqual(hung(HOOK_3_0, HOOK_3_1), ((1, 0, 3, 2, 5, 4), 0))
        self.assertEqual(hung(HOOK_3_1, HOOK_3_0), ((5, 2, 1, 4, 3, 0), 0))

    def test_with_rings(self):
        self.assertEqual(hung(HOOK_2, HOOK_2), (HOOK_2, 1))
        self.assertEqual(hung(HOOK_3_0, HOOK_3_0), (HOOK_3_0, 1))
        short = tuple(peg ^ 1 for peg in range(20))
        self.assertEqual(hung(short, short), (short, 5))

    def test_a_ring_of_many_ribbons(self):
        nested = (3, 2, 1, 0, 7, 6, 5, 4)
        beside = (1, 0, 3, 2, 5, 4, 7, 6)
        self.assertEqual(hung(nested, beside), ((3, 2, 1, 0, 5, 4, 7, 6), 1))
        self.assertEqual(hung(nested, nested), (nested, 2))

    def test_the_plain_frame_above_and_beneath(self):
        for frame in all_frames(4) + some_frames(10, 10):
            pegs = len(frame) // 2
            self.assertEqual(hung(plain(pegs), frame), (frame, 0))
            self.assertEqual(hung(frame, plain(pegs)), (frame, 0))
        self.assertEqual(hung(PLAIN_1, PLAIN_1), (PLAIN_1, 0))

    def test_all_pairs(self):
        for pegs in (1, 2, 3, 4):
            for two in itertools.product(all_frames(pegs), repeat=2):
                self.assertEqual(hung(*two), expected_stack(pegs, two), two)

    def test_ten_pegs(self):
        frames = some_frames(10, 12)
        for two in itertools.product(frames, repeat=2):
            told = hung(*two)
            self.assertEqual(told, expected_stack(10, two))
            self.assertTrue(is_frame(told[0]))

    def test_the_told_pair(self):
        told = hung(HOOK_2, PLAIN_2)
        self.assertIsInstance(told, tuple)
        self.assertIsInstance(told[0], tuple)
        self.assertIs(type(told[1]), int)

    def test_turned_over_the_row_is_turned(self):
        for one, other in itertools.product(all_frames(4), repeat=2):
            frame, rings = hung(one, other)
            self.assertEqual(hung(over(other), over(one)), (over(frame), rings))

    def test_refusals(self):
        for frame in NO_FRAMES.values():
            for good in (PLAIN_1, PLAIN_2, plain(10)):
                self.refused("BadFrame", hung, frame, good)
                self.refused("BadFrame", hung, good, frame)
            self.refused("BadFrame", hung, frame, frame)
        self.refused("BadPegs", hung, PLAIN_1, PLAIN_2)
        self.refused("BadPegs", hung, PLAIN_2, PLAIN_1)
        self.refused("BadPegs", hung, plain(10), plain(9))


class StackedTest(Refusals, unittest.TestCase):
    def test_none(self):
        for pegs in range(1, 11):
            self.assertEqual(stacked(pegs, []), (plain(pegs), 0))

    def test_one(self):
        for frame in all_frames(3):
            self.assertEqual(stacked(3, [frame]), (frame, 0))

    def test_order_is_from_the_uppermost_down(self):
        self.assertEqual(stacked(3, [HOOK_3_0, HOOK_3_1]), ((1, 0, 3, 2, 5, 4), 0))
        self.assertEqual(stacked(3, [HOOK_3_0, HOOK_3_1, HOOK_3_0]), (HOOK_3_0, 0))
        self.assertEqual(stacked(3, [HOOK_3_0, HOOK_3_0, HOOK_3_1]), ((1, 0, 3, 2, 5, 4), 1))
        self.assertEqual(stacked(2, [HOOK_2] * 5), (HOOK_2, 4))

    def test_sixty(self):
        self.assertEqual(stacked(2, [HOOK_2] * 60), (HOOK_2, 59))
        self.assertEqual(stacked(10, [plain(10)] * 60), (plain(10), 0))
        for pegs in (3, 6):
            frames = some_frames(pegs, 60)
            self.assertEqual(stacked(pegs, frames), expected_stack(pegs, frames))

    def test_more_than_sixty_are_no_error(self):
        self.assertEqual(stacked(2, [HOOK_2] * 70), (HOOK_2, 69))

    def test_all_rows_of_three(self):
        for row in itertools.product(all_frames(3), repeat=3):
            self.assertEqual(stacked(3, list(row)), expected_stack(3, row), row)

    def test_whichever_two_neighbours_are_taken_first(self):
        for row in itertools.product(all_frames(3), repeat=4):
            told = stacked(3, list(row))
            for at in range(3):
                self.assertEqual(folded(row, at), told)
        frames = some_frames(10, 12)
        for at in range(11):
            self.assertEqual(folded(frames, at), stacked(10, frames))

    def test_the_handed_list_stays(self):
        frames = [HOOK_3_0, HOOK_3_1, HOOK_3_1]
        told = stacked(3, frames)
        self.assertEqual(frames, [HOOK_3_0, HOOK_3_1, HOOK_3_1])
        frames.clear()
        self.assertEqual(told, ((1, 0, 3, 2, 5, 4), 1))
        empty = []
        stacked(3, empty)
        self.assertEqual(empty, [])

    def test_bad_pegs_ahead_of_all_else(self):
        for pegs in BAD_PEG_COUNTS:
            for frames in ([], [PLAIN_1], [(0, 1)], [(), PLAIN_2]):
                self.refused("BadPegs", stacked, pegs, frames)

    def test_bad_frame_at_each_place(self):
        for frame in NO_FRAMES.values():
            for at in range(4):
                row = [HOOK_2] * 3
                row.insert(at, frame)
                self.refused("BadFrame", stacked, 2, row)

    def test_other_pegs_at_each_place(self):
        for other in (PLAIN_1, PLAIN_3, plain(10)):
            for at in range(4):
                row = [HOOK_2] * 3
                row.insert(at, other)
                self.refused("BadPegs", stacked, 2, row)
        self.refused("BadPegs", stacked, 2, [PLAIN_3, PLAIN_3])

    def test_bad_frame_ahead_of_other_pegs(self):
        for frame in NO_FRAMES.values():
            self.refused("BadFrame", stacked, 2, [PLAIN_3, frame])
            self.refused("BadFrame", stacked, 2, [frame, PLAIN_3])
            self.refused("BadFrame", stacked, 2, [PLAIN_1, PLAIN_2, PLAIN_3, frame])

    def test_what_is_refused_changes_nothing(self):
        row = [PLAIN_3, HOOK_2]
        self.refused("BadPegs", stacked, 2, row)
        self.assertEqual(row, [PLAIN_3, HOOK_2])


class ClosedTest(Refusals, unittest.TestCase):
    def test_closed(self):
        self.assertEqual(closed(HOOK_2), 1)
        self.assertEqual(closed(HOOK_3_0), 2)
        self.assertEqual(closed((1, 0, 3, 2, 5, 4)), 1)
        for pegs in range(1, 11):
            self.assertEqual(closed(plain(pegs)), pegs)
        self.assertEqual(closed(tuple(peg ^ 1 for peg in range(20))), 5)

    def test_all_rings_are_counted(self):
        for frame in all_frames(4) + all_frames(5) + some_frames(10, 20):
            pegs = len(frame) // 2
            links = list(enumerate(frame)) + [(i, pegs + i) for i in range(pegs)]
            self.assertEqual(closed(frame), len(pieces(list(range(2 * pegs)), links)))

    def test_refusals(self):
        for frame in NO_FRAMES.values():
            self.refused("BadFrame", closed, frame)


if __name__ == "__main__":
    unittest.main()
