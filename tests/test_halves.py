import itertools
import unittest

from ribbonloft.frames import is_frame, over, plain, through
from ribbonloft.halves import is_half, joined, lower, meeting, through_of, upper
from ribbonloft.hanging import hung
from tests.support import (
    HOOK_2, HOOK_3_0, HOOK_3_1, NO_FRAMES, PLAIN_1, PLAIN_2, THIRTY_FIGURES,
    Refusals, all_frames, all_halves, pieces, some_frames,
)

NESTED_10 = tuple(range(9, -1, -1))
GOOD = [
    (0,), (0, 1), (1, 0), (1, 0, 2), (0, 2, 1), (3, 2, 1, 0), (1, 0, 3, 2),
    (0, 2, 1, 3, 7, 6, 5, 4), tuple(range(10)), NESTED_10, tuple(peg ^ 1 for peg in range(10)),
]
NO_HALVES = {
    "crossing": (2, 3, 0, 1),
    "crossing behind a good beginning": (1, 0, 2, 5, 6, 3, 4),
    "through between the two of a tie": (2, 1, 0),
    "through within an outer tie": (5, 2, 1, 3, 4, 0),
    "beyond": (1,),
    "beyond, of two": (2, 1),
    "far beyond": (0, THIRTY_FIGURES),
    "below 0": (-1,),
    "below 0, right if counted from the end": (-1, 0),
    "far below 0": (-THIRTY_FIGURES, 1),
    "tied to one that is tied elsewhere": (1, 2, 1),
    "round about": (1, 2, 0),
    "tied to one that goes through": (1, 1),
    "no numbers": (False, True),
    "one that is no number": (0, True),
}


class IsHalfTest(unittest.TestCase):
    def test_good_ones(self):
        for half in GOOD:
            self.assertIs(is_half(half), True, half)

    def test_no_halves(self):
        for why, half in NO_HALVES.items():
            with self.subTest(why):
                self.assertIs(is_half(half), False)

    def test_outside_one_to_ten_pegs(self):
        self.assertIs(is_half(()), False)
        self.assertIs(is_half(tuple(range(11))), False)

    def test_all_tuples_of_up_to_five_pegs(self):
        for pegs in (1, 2, 3, 4, 5):
            good = set(all_halves(pegs))
            for half in itertools.product(range(-1, pegs + 1), repeat=pegs):
                self.assertIs(is_half(half), half in good, half)


class UpperAndLowerTest(Refusals, unittest.TestCase):
    def test_upper_and_lower(self):
        self.assertEqual((upper(PLAIN_1), lower(PLAIN_1)), ((0,), (0,)))
        self.assertEqual((upper(HOOK_2), lower(HOOK_2)), ((1, 0), (1, 0)))
        self.assertEqual((upper(HOOK_3_0), lower(HOOK_3_0)), ((1, 0, 2), (1, 0, 2)))
        self.assertEqual((upper(HOOK_3_1), lower(HOOK_3_1)), ((0, 2, 1), (0, 2, 1)))
        frame = (1, 0, 3, 2, 5, 4)
        self.assertEqual((upper(frame), lower(frame)), ((1, 0, 2), (0, 2, 1)))
        self.assertEqual((upper(over(frame)), lower(over(frame))), ((0, 2, 1), (1, 0, 2)))
        self.assertEqual(upper(plain(10)), tuple(range(10)))

    def test_both_have_as_many_that_go_through(self):
        for frame in all_frames(5) + some_frames(10, 20):
            self.assertTrue(is_half(upper(frame)))
            self.assertTrue(is_half(lower(frame)))
            self.assertEqual(through_of(upper(frame)), through(frame))
            self.assertEqual(through_of(lower(frame)), through(frame))

    def test_through_of(self):
        told = [through_of(half) for half in GOOD]
        self.assertEqual(told, [1, 2, 0, 1, 1, 0, 0, 2, 10, 0, 0])

    def test_refusals(self):
        for frame in NO_FRAMES.values():
            self.refused("BadFrame", upper, frame)
            self.refused("BadFrame", lower, frame)
        for half in NO_HALVES.values():
            self.refused("BadHalf", through_of, half)


class JoinedTest(Refusals, unittest.TestCase):
    def test_joined(self):
        self.assertEqual(joined((0,), (0,)), PLAIN_1)
        self.assertEqual(joined((0, 1), (0, 1)), PLAIN_2)
        self.assertEqual(joined((1, 0, 2), (0, 2, 1)), (1, 0, 3, 2, 5, 4))
        self.assertEqual(joined((0, 2, 1), (1, 0, 2)), (5, 2, 1, 4, 3, 0))
        self.assertEqual(joined(NESTED_10, NESTED_10), NESTED_10 + tuple(range(19, 9, -1)))

    def test_the_halves_of_a_frame_make_it_again(self):
        for frame in all_frames(4) + all_frames(5) + some_frames(10, 20):
            self.assertEqual(joined(upper(frame), lower(frame)), frame)

    def test_just_one_frame_of_two_halves(self):
        made = []
        for one, other in itertools.product(all_halves(5), repeat=2):
            if through_of(one) == through_of(other):
                frame = joined(one, other)
                self.assertTrue(is_frame(frame))
                self.assertEqual((upper(frame), lower(frame)), (one, other))
                made.append(frame)
        self.assertEqual(sorted(made), all_frames(5))

    def test_unlike_numbers_go_through(self):
        self.refused("BadHalf", joined, (0, 1), (1, 0))
        self.refused("BadHalf", joined, (1, 0), (0, 1))
        self.refused("BadHalf", joined, NESTED_10, tuple(range(10)))


class MeetingTest(Refusals, unittest.TestCase):
    def test_rings(self):
        self.assertEqual(meeting((1, 0), (1, 0)), (1, 0))
        self.assertEqual(meeting((3, 2, 1, 0), (1, 0, 3, 2)), (1, 0))
        self.assertEqual(meeting((1, 0, 2, 4, 3), (1, 0, 2, 4, 3)), (2, 1))
        self.assertEqual(meeting(NESTED_10, NESTED_10), (5, 0))

    def test_through_both(self):
        self.assertEqual(meeting((0,), (0,)), (0, 1))
        self.assertEqual(meeting((0, 1), (0, 1)), (0, 2))
        self.assertEqual(meeting((1, 0, 2), (0, 2, 1)), (0, 1))
        self.assertEqual(meeting(tuple(range(10)), tuple(range(10))), (0, 10))

    def test_ribbons_that_turn_back(self):
        self.assertEqual(meeting((0, 1), (1, 0)), (0, 0))
        self.assertEqual(meeting((1, 0), (0, 1)), (0, 0))
        self.assertEqual(meeting((0, 1, 2), (1, 0, 2)), (0, 1))
        self.assertEqual(meeting((0, 2, 1, 3), (1, 0, 3, 2)), (0, 0))

    def test_all_pairs_by_pieces(self):
        for pegs in (1, 2, 3, 4, 5, 6):
            for one, other in itertools.product(all_halves(pegs), repeat=2):
                links = list(enumerate(one)) + list(enumerate(other))
                rings = through_both = 0
                for piece in pieces(list(range(pegs)), links):
                    up = [peg for peg in piece if one[peg] == peg]
                    down = [peg for peg in piece if other[peg] == peg]
                    rings += not up and not down
                    through_both += bool(up and down)
                self.assertEqual(meeting(one, other), (rings, through_both), (one, other))

    def test_the_other_way_round(self):
        for one, other in itertools.product(all_halves(5), repeat=2):
            self.assertEqual(meeting(one, other), meeting(other, one))

    def test_it_is_what_hanging_tells(self):
        frames = some_frames(10, 12)
        for one, other in itertools.product(frames, repeat=2):
            frame, rings = hung(one, other)
            self.assertEqual(meeting(lower(one), upper(other)), (rings, through(frame)))


class RefusedHalvesTest(Refusals, unittest.TestCase):
    def test_bad_half_ahead_of_all_else(self):
        for half in NO_HALVES.values():
            for function in (joined, meeting):
                for good in ((0,), (0, 1), (1, 0), tuple(range(10))):
                    self.refused("BadHalf", function, half, good)
                    self.refused("BadHalf", function, good, half)
                self.refused("BadHalf", function, half, half)

    def test_bad_pegs_behind_that(self):
        for function in (joined, meeting):
            self.refused("BadPegs", function, (0,), (0, 1))
            self.refused("BadPegs", function, (0, 1), (0,))
            self.refused("BadPegs", function, (1, 0, 2), (0,))
            self.refused("BadPegs", function, (1, 0), (1, 0, 3, 2))

    def test_bad_pegs_ahead_of_unlike_numbers_through(self):
        self.refused("BadPegs", joined, (0, 1, 2), (1, 0))
        self.refused("BadPegs", joined, (1, 0), (0,))


if __name__ == "__main__":
    unittest.main()
