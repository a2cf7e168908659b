import functools
import itertools
import unittest

from ribbonloft.frames import plain, through
from ribbonloft.halves import joined
from ribbonloft.leads import above, below, between, family, itself
from ribbonloft.numbers import half_of
from tests.model import two_come_to
from tests.support import (
    HOOK_2, HOOK_3_0, HOOK_3_1, NO_FRAMES, PLAIN_1, PLAIN_2, PLAIN_3, Refusals, all_frames,
    expected_stack, frame_of, halves_by_signs, hook_of, plain_of, some_frames,
)

FEW = (1, 2, 3, 4, 5)


@functools.lru_cache(maxsize=None)
def goals_below(frame):
    pegs = len(frame) // 2
    return frozenset(two_come_to(pegs, frame, other)[0] for other in all_of(pegs))


@functools.lru_cache(maxsize=None)
def goals_above(frame):
    pegs = len(frame) // 2
    return frozenset(two_come_to(pegs, other, frame)[0] for other in all_of(pegs))


@functools.lru_cache(maxsize=None)
def all_of(pegs):
    return tuple(all_frames(pegs))


def pairs_tied(frame, rail):
    """The pairs of pegs of one rail that are tied, the first one first."""
    return sorted((peg, frame[peg]) for peg in rail if frame[peg] in rail and peg < frame[peg])


def first_bar(frame, goal, rail):
    missed = [pair for pair in pairs_tied(frame, rail) if pair not in pairs_tied(goal, rail)]
    return ("bar",) + missed[0] if missed else None


class LeadsCase(Refusals, unittest.TestCase):
    def leads(self, told, word, frames, goal):
        """Checks that what is told, hung above or under a frame, comes to the goal."""
        self.assertIs(type(told), tuple)
        self.assertEqual(told[0], word)
        self.assertEqual(expected_stack(len(goal) // 2, frames)[0], goal)


class BelowTest(LeadsCase):
    def test_small(self):
        self.assertEqual(below(PLAIN_1, PLAIN_1), ("frame", PLAIN_1))
        self.assertEqual(below(PLAIN_2, HOOK_2), ("frame", HOOK_2))
        self.assertEqual(below(HOOK_2, PLAIN_2), ("bar", 0, 1))
        self.assertEqual(below(HOOK_3_0, HOOK_3_1), ("bar", 0, 1))
        self.assertEqual(below(HOOK_3_1, HOOK_3_0), ("bar", 1, 2))

    def test_all_pairs_of_few_pegs(self):
        for pegs in FEW:
            for frame, goal in itertools.product(all_of(pegs), repeat=2):
                told = below(frame, goal)
                if goal in goals_below(frame):
                    self.leads(told, "frame", [frame, told[1]], goal)
                    self.assertIn(told[1], all_of(pegs))
                    self.assertEqual(len(told), 2)
                else:
                    self.assertEqual(told, first_bar(frame, goal, range(pegs)), (frame, goal))

    def test_ten_pegs(self):
        for frame, other in itertools.product(some_frames(10, 12), repeat=2):
            goal = expected_stack(10, [frame, other])[0]
            told = below(frame, goal)
            self.leads(told, "frame", [frame, told[1]], goal)
            bar = first_bar(frame, other, range(10))
            if bar:
                self.assertEqual(below(frame, other), bar)

    def test_the_first_two_pegs_rising(self):
        nested = frame_of("((()))" + "()" * 3)
        self.assertEqual(nested[:6], (5, 4, 3, 2, 1, 0))
        beside = frame_of("()" * 6)
        self.assertEqual(below(nested, beside), ("bar", 0, 5))
        self.assertEqual(below(nested, frame_of("(()())" + "()" * 3)), ("bar", 1, 4))
        self.assertEqual(below(beside, frame_of("()" + "(())" + "()" * 3)), ("bar", 2, 3))
        self.assertEqual(below(beside, plain_of(6)), ("bar", 0, 1))


class AboveTest(LeadsCase):
    def test_small(self):
        self.assertEqual(above(PLAIN_1, PLAIN_1), ("frame", PLAIN_1))
        self.assertEqual(above(PLAIN_2, HOOK_2), ("frame", HOOK_2))
        self.assertEqual(above(HOOK_2, PLAIN_2), ("bar", 2, 3))
        self.assertEqual(above(HOOK_3_0, HOOK_3_1), ("bar", 3, 4))
        self.assertEqual(above(HOOK_3_1, PLAIN_3), ("bar", 4, 5))

    def test_all_pairs_of_few_pegs(self):
        for pegs in FEW:
            for frame, goal in itertools.product(all_of(pegs), repeat=2):
                told = above(frame, goal)
                if goal in goals_above(frame):
                    self.leads(told, "frame", [told[1], frame], goal)
                    self.assertIn(told[1], all_of(pegs))
                    self.assertEqual(len(told), 2)
                else:
                    self.assertEqual(told, first_bar(frame, goal, range(pegs, 2 * pegs)), (frame, goal))

    def test_ten_pegs(self):
        for frame, other in itertools.product(some_frames(10, 12), repeat=2):
            goal = expected_stack(10, [other, frame])[0]
            told = above(frame, goal)
            self.leads(told, "frame", [told[1], frame], goal)
            bar = first_bar(frame, other, range(10, 20))
            if bar:
                self.assertEqual(above(frame, other), bar)

    def test_the_first_two_pegs_rising(self):
        beside = frame_of("()" * 6)
        # In the round the lower pegs come from the right to the left.
        self.assertEqual(above(beside, frame_of("()" * 3 + "(())" + "()")), ("bar", 8, 9))
        self.assertEqual(above(frame_of("()" * 3 + "((()))"), beside), ("bar", 6, 11))
        self.assertEqual(above(beside, plain_of(6)), ("bar", 6, 7))


class BetweenTest(LeadsCase):
    def test_small(self):
        self.assertEqual(between(PLAIN_1, PLAIN_1), ("frames", PLAIN_1, PLAIN_1))
        self.assertEqual(between(HOOK_2, PLAIN_2), ("bar", 2, 0))
        self.assertEqual(between(HOOK_3_0, PLAIN_3), ("bar", 3, 1))
        self.assertEqual(between(frame_of("()" * 10), plain_of(10)), ("bar", 10, 0))
        self.assertEqual(between(hook_of(10, 4), plain_of(10)), ("bar", 10, 8))

    def test_all_pairs_of_few_pegs(self):
        for pegs in FEW:
            for frame in all_of(pegs):
                goals = set().union(*[goals_above(other) for other in goals_below(frame)])
                for goal in all_of(pegs):
                    told = between(frame, goal)
                    if goal in goals:
                        self.leads(told, "frames", [told[1], frame, told[2]], goal)
                        self.assertIn(told[1], all_of(pegs))
                        self.assertIn(told[2], all_of(pegs))
                        self.assertEqual(len(told), 3)
                    else:
                        self.assertEqual(told, ("bar", through(goal), through(frame)))

    def test_ten_pegs(self):
        frames = some_frames(10, 12) + [plain_of(10), hook_of(10, 0), hook_of(10, 8)]
        for frame, goal in itertools.product(frames, repeat=2):
            told = between(frame, goal)
            many, less = [sum(peg > 9 for peg in one[:10]) for one in (goal, frame)]
            if many > less:
                self.assertEqual(told, ("bar", many, less))
            else:
                self.leads(told, "frames", [told[1], frame, told[2]], goal)


class FamilyTest(LeadsCase):
    def test_small(self):
        self.assertEqual(family(PLAIN_1), (0, 0))
        self.assertEqual(family(HOOK_3_0), (1, 1))
        self.assertEqual(family(HOOK_3_1), (0, 0))
        self.assertEqual(family((1, 0, 3, 2, 5, 4)), (1, 0))
        self.assertEqual(family((5, 2, 1, 4, 3, 0)), (0, 1))

    def test_numbers_are_those_of_all_halves_in_order(self):
        for pegs in FEW + (6,):
            halves = halves_by_signs(pegs)
            for frame in all_of(pegs):
                parts = [
                    tuple(other if other < pegs else peg for peg, other in enumerate(rail))
                    for rail in (frame[:pegs], [(peg + pegs) % (2 * pegs) for peg in frame[pegs:]])
                ]
                going = sum(other == peg for peg, other in enumerate(parts[0]))
                among = [half for half in halves if sum(p == q for p, q in enumerate(half)) == going]
                self.assertEqual(family(frame), (among.index(parts[0]), among.index(parts[1])))

    def test_there_and_back(self):
        for frame in all_of(5) + tuple(some_frames(10, 30)):
            pegs = len(frame) // 2
            one, other = family(frame)
            halves = [half_of(pegs, through(frame), number) for number in (one, other)]
            self.assertEqual(joined(*halves), frame)
        self.assertIs(type(family(HOOK_2)), tuple)


class ItselfTest(LeadsCase):
    def test_small(self):
        for frame in (PLAIN_1, PLAIN_2, HOOK_2, HOOK_3_0, HOOK_3_1, (1, 0, 3, 2, 5, 4)):
            self.assertIs(itself(frame), True)
        self.assertIs(itself(frame_of("(()())()")), True)
        self.assertIs(itself(frame_of("((()))()")), False)
        self.assertIs(itself(frame_of("()((()))")), False)

    def test_all(self):
        for pegs in FEW + (6,):
            told = [itself(frame) for frame in all_of(pegs)]
            self.assertEqual(told, [expected_stack(pegs, [f, f])[0] == f for f in all_of(pegs)])
        self.assertEqual(sum(itself(frame) for frame in all_of(4)), 12)
        for frame in some_frames(10, 30):
            self.assertIs(itself(frame), expected_stack(10, [frame, frame])[0] == frame)


class RefusalsTest(LeadsCase):
    def test_bad_frame(self):
        for frame in NO_FRAMES.values():
            self.refused("BadFrame", family, frame)
            self.refused("BadFrame", itself, frame)
            for function in (below, above, between):
                for good in (PLAIN_1, PLAIN_2, HOOK_3_0, plain(10)):
                    self.refused("BadFrame", function, frame, good)
                    self.refused("BadFrame", function, good, frame)
                self.refused("BadFrame", function, frame, frame)

    def test_bad_pegs_behind_that(self):
        for function in (below, above, between):
            self.refused("BadPegs", function, PLAIN_1, PLAIN_2)
            self.refused("BadPegs", function, PLAIN_2, PLAIN_1)
            self.refused("BadPegs", function, HOOK_2, HOOK_3_0)
            self.refused("BadPegs", function, HOOK_3_1, HOOK_2)
            self.refused("BadPegs", function, plain(9), plain(10))
            self.refused("BadPegs", function, plain(10), plain(9))


if __name__ == "__main__":
    unittest.main()
