import unittest

from ribbonloft.frames import brackets, plain
from ribbonloft.halves import through_of
from ribbonloft.numbers import (
    every, half_number, half_of, how_many, how_many_halves, number_of, numbered,
)
from tests.support import (
    BAD_PEG_COUNTS, HOOK_2, HOOK_3_0, HOOK_3_1, NO_FRAMES, PLAIN_1, PLAIN_2, PLAIN_3,
    THIRTY_FIGURES, Refusals, all_frames, all_halves, all_texts, frame_of, halves_by_signs,
    some_frames,
)

MANY = [1, 2, 5, 14, 42, 132, 429, 1430, 4862, 16796]
FAR = [THIRTY_FIGURES, -THIRTY_FIGURES]


class HowManyTest(Refusals, unittest.TestCase):
    def test_how_many(self):
        self.assertEqual([how_many(pegs) for pegs in range(1, 11)], MANY)

    def test_as_many_as_there_are(self):
        for pegs in (1, 2, 3, 4, 5, 6):
            self.assertEqual(how_many(pegs), len(all_frames(pegs)))

    def test_bad_pegs(self):
        for pegs in BAD_PEG_COUNTS:
            self.refused("BadPegs", how_many, pegs)


class NumberedTest(Refusals, unittest.TestCase):
    def test_small(self):
        self.assertEqual(numbered(1, 0), PLAIN_1)
        self.assertEqual([numbered(2, 0), numbered(2, 1)], [PLAIN_2, HOOK_2])
        self.assertEqual(
            [numbered(3, number) for number in range(5)],
            [PLAIN_3, HOOK_3_1, (5, 2, 1, 4, 3, 0), (1, 0, 3, 2, 5, 4), HOOK_3_0],
        )

    def test_all_in_the_order_of_texts(self):
        for pegs in range(1, 9):
            texts = all_texts(pegs)
            for number, text in enumerate(texts):
                self.assertEqual(numbered(pegs, number), frame_of(text))
                self.assertEqual(number_of(frame_of(text)), number)

    def test_the_frames_are_those_of_the_words(self):
        for pegs in (1, 2, 3, 4, 5, 6):
            frames = sorted(all_frames(pegs), key=brackets)
            self.assertEqual([numbered(pegs, k) for k in range(len(frames))], frames)

    def test_ten_pegs(self):
        texts = all_texts(10)
        self.assertEqual(len(texts), 16796)
        for number in list(range(0, 16796, 13)) + [1, 16794, 16795]:
            self.assertEqual(numbered(10, number), frame_of(texts[number]))
            self.assertEqual(number_of(frame_of(texts[number])), number)

    def test_there_and_back(self):
        for pegs in (7, 8, 9, 10):
            for frame in some_frames(pegs, 50):
                self.assertEqual(numbered(pegs, number_of(frame)), frame)

    def test_first_and_last(self):
        for pegs in range(1, 11):
            self.assertEqual(number_of(plain(pegs)), 0)
            self.assertEqual(brackets(numbered(pegs, MANY[pegs - 1] - 1)), "()" * pegs)

    def test_kinds(self):
        self.assertIs(type(numbered(3, 2)), tuple)
        self.assertIs(type(number_of(HOOK_2)), int)
        self.assertIs(type(how_many(2)), int)

    def test_no_number(self):
        for pegs, many in enumerate(MANY, 1):
            for number in [-1, -many, many, many + 1, True, False] + FAR:
                self.refused("NoNumber", numbered, pegs, number)

    def test_bad_pegs_ahead_of_no_number(self):
        for pegs in BAD_PEG_COUNTS:
            for number in [0, -1, 20000] + FAR:
                self.refused("BadPegs", numbered, pegs, number)

    def test_bad_frame(self):
        for frame in NO_FRAMES.values():
            self.refused("BadFrame", number_of, frame)


class EveryTest(Refusals, unittest.TestCase):
    def test_every(self):
        self.assertEqual(every(1), [PLAIN_1])
        self.assertEqual(every(2), [PLAIN_2, HOOK_2])
        for pegs in range(1, 7):
            told = every(pegs)
            self.assertIs(type(told), list)
            self.assertEqual(told, [frame_of(text) for text in all_texts(pegs)])

    def test_a_told_list_that_is_changed_changes_nothing(self):
        told = every(2)
        told.append(None)
        told[0] = 7
        self.assertEqual(every(2), [PLAIN_2, HOOK_2])
        self.assertEqual(how_many(2), 2)

    def test_bad_pegs(self):
        for pegs in BAD_PEG_COUNTS + [7, 8, 9, 10]:
            self.refused("BadPegs", every, pegs)


class HalvesTest(Refusals, unittest.TestCase):
    def test_small(self):
        self.assertEqual(half_of(1, 1, 0), (0,))
        self.assertEqual((half_of(2, 0, 0), half_of(2, 2, 0)), ((1, 0), (0, 1)))
        self.assertEqual([half_of(3, 1, k) for k in (0, 1)], [(0, 2, 1), (1, 0, 2)])
        self.assertEqual(
            [half_of(4, 2, k) for k in (0, 1, 2)], [(0, 1, 3, 2), (0, 2, 1, 3), (1, 0, 2, 3)]
        )
        self.assertEqual([half_of(4, 0, k) for k in (0, 1)], [(1, 0, 3, 2), (3, 2, 1, 0)])

    def test_the_two_ways_to_all_halves_agree(self):
        for pegs in range(1, 7):
            self.assertEqual(halves_by_signs(pegs), sorted(all_halves(pegs)))

    def test_all_in_the_order_of_tuples(self):
        for pegs in range(1, 11):
            halves = halves_by_signs(pegs)
            for going in range(pegs + 1):
                these = [half for half in halves if through_of(half) == going]
                self.assertEqual(how_many_halves(pegs, going), len(these))
                for number, half in enumerate(these):
                    self.assertEqual(half_of(pegs, going, number), half)
                    self.assertEqual(half_number(half), number)

    def test_none_where_that_cannot_be(self):
        for pegs in range(1, 11):
            others = [going for going in range(-12, 24) if not 0 <= going <= pegs or (pegs - going) % 2]
            for going in others + FAR + [THIRTY_FIGURES - 1, 1 - THIRTY_FIGURES]:
                self.assertEqual(how_many_halves(pegs, going), 0, (pegs, going))
                for number in [0, 1, -1] + FAR:
                    self.refused("NoNumber", half_of, pegs, going, number)

    def test_kinds(self):
        self.assertIs(type(half_of(3, 1, 0)), tuple)
        self.assertIs(type(half_number((0, 1))), int)
        self.assertIs(type(how_many_halves(3, 1)), int)
        self.assertIs(type(how_many_halves(3, 2)), int)

    def test_no_number(self):
        for pegs in range(1, 11):
            for going in range(pegs, -1, -2):
                many = how_many_halves(pegs, going)
                for number in [-1, -many, many, many + 1, True] + FAR:
                    self.refused("NoNumber", half_of, pegs, going, number)

    def test_bad_pegs_ahead_of_all_else(self):
        for pegs in BAD_PEG_COUNTS:
            for going in [0, 1, -1, 11] + FAR:
                self.refused("BadPegs", how_many_halves, pegs, going)
                for number in [0, -1] + FAR:
                    self.refused("BadPegs", half_of, pegs, going, number)

    def test_bad_half(self):
        bad = [
            (), (1,), (-1,), (1, 1), (0, 0), (1, 2, 0), (2, 1, 0), (2, 3, 0, 1), (0, -1), (True, False),
            (THIRTY_FIGURES, 0), (3, 1, 2, 0), tuple(range(11)),
        ]
        for half in bad:
            self.refused("BadHalf", half_number, half)


if __name__ == "__main__":
    unittest.main()
