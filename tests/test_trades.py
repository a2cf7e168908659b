import copy
import itertools
import random
import unittest

from ribbonloft.shortest import shortest_row
from ribbonloft.trades import bridge, traded, walked
from tests.support import (
    BAD_PEG_COUNTS, THIRTY_FIGURES, Refusals, expected_trade, plain_of, row_comes_to, some_frames,
    trades_near,
)

NO_TRADES = [
    ("swap", 0), ("swap", 1), ("swap", -1), ("drop", 1), ("double", 0), ("cut", 0), ("grow", 0, 0),
    ("grow", 0, -1), ("grow", 0, THIRTY_FIGURES), ("drop", THIRTY_FIGURES), ("drop", -THIRTY_FIGURES),
    ("grow", 0), ("drop", 0, 0), ("ring", 0), ("", 0), ("Swap", 0),
    ("drop", False), ("grow", 0, True),
]


def all_rows(pegs, longest):
    for many in range(longest + 1):
        yield from [list(row) for row in itertools.product(range(pegs - 1), repeat=many)]


def makes(pegs, pair):
    frame, fallen = row_comes_to(pegs, pair[1])
    return frame, pair[0] + fallen


def drawn_row(draw, pegs, many):
    return [draw.randrange(pegs - 1) for _ in range(many)] if pegs > 1 else []


def wandered(draw, pegs, pair, steps, longest):
    """A pair that makes the same, some drawn trades away."""
    rings, row = pair
    for _ in range(steps):
        near = [expected_trade(pegs, rings, row, trade) for trade in trades_near(pegs, row)]
        near = [other for other in near if other is not None and len(other[1]) <= longest]
        if near:
            rings, row = draw.choice(near)
    return rings, row


class TradedTest(Refusals, unittest.TestCase):
    def test_each_trade(self):
        self.assertEqual(traded(4, 0, [0, 2, 1], ("swap", 0)), (0, [2, 0, 1]))
        self.assertEqual(traded(4, 0, [1, 2, 0], ("swap", 1)), (0, [1, 0, 2]))
        self.assertEqual(traded(3, 4, [0, 1, 1, 0], ("drop", 1)), (5, [0, 1, 0]))
        self.assertEqual(traded(3, 4, [0, 1, 0], ("double", 1)), (3, [0, 1, 1, 0]))
        self.assertEqual(traded(3, 1, [0], ("double", 0)), (0, [0, 0]))
        self.assertEqual(traded(3, 4, [1, 0, 1, 0], ("cut", 0)), (4, [1, 0]))
        self.assertEqual(traded(3, 4, [1, 0, 1, 0], ("cut", 1)), (4, [1, 0]))
        self.assertEqual(traded(4, 0, [0, 1, 2], ("grow", 1, 0)), (0, [0, 1, 0, 1, 2]))
        self.assertEqual(traded(4, 0, [0, 1, 2], ("grow", 1, 2)), (0, [0, 1, 2, 1, 2]))
        self.assertEqual(traded(4, 0, [0, 1, 2], ("grow", 2, 1)), (0, [0, 1, 2, 1, 2]))

    def test_at_the_edges(self):
        self.refused("BadTrade", traded, 2, 0, [0], ("double", 0))
        self.refused("BadTrade", traded, 4, 0, [0, 1], ("swap", 0))
        self.refused("BadTrade", traded, 4, 0, [0, 2], ("swap", 1))
        self.refused("BadTrade", traded, 4, 0, [0, 2], ("swap", -2))
        self.refused("BadTrade", traded, 2, 0, [0, 0], ("swap", 0))
        self.refused("BadTrade", traded, 2, 0, [0, 0], ("drop", 1))
        self.refused("BadTrade", traded, 2, 0, [0, 0], ("drop", -2))
        self.refused("BadTrade", traded, 4, 0, [0, 2, 0], ("cut", 0))
        self.refused("BadTrade", traded, 3, 0, [0, 0, 0], ("cut", 0))
        self.refused("BadTrade", traded, 3, 0, [0, 1, 0], ("cut", 1))
        self.refused("BadTrade", traded, 3, 0, [0, 1, 0], ("cut", -3))
        self.refused("BadTrade", traded, 2, 0, [0], ("grow", 0, 1))
        self.refused("BadTrade", traded, 3, 0, [0], ("grow", 0, -1))
        self.refused("BadTrade", traded, 3, 0, [0], ("grow", 1, 1))
        self.refused("BadTrade", traded, 1, 5, [], ("double", 0))

    def test_all_trades_of_all_short_rows(self):
        for pegs, longest in ((1, 0), (2, 4), (3, 5), (4, 4), (5, 3)):
            for row in all_rows(pegs, longest):
                for rings in (0, 1):
                    for trade in trades_near(pegs, row):
                        self.compare(pegs, rings, row, trade)

    def test_drawn_trades(self):
        draw = random.Random(21)
        for pegs in range(2, 11):
            for many in (6, 30, 66):
                row = drawn_row(draw, pegs, many)
                for trade in trades_near(pegs, row):
                    self.compare(pegs, draw.choice([0, 3, THIRTY_FIGURES - 1]), row, trade)

    def compare(self, pegs, rings, row, trade):
        expected = expected_trade(pegs, rings, row, trade)
        kept = list(row)
        if expected is None:
            self.assertEqual(self.refused("BadTrade", traded, pegs, rings, row, trade).at, 0)
        else:
            told = traded(pegs, rings, row, trade)
            self.assertEqual(told, expected, (pegs, rings, row, trade))
            self.assertEqual(makes(pegs, told), makes(pegs, (rings, row)))
        self.assertEqual(row, kept)

    def test_the_told_pair(self):
        row = [0, 0]
        told = traded(2, 0, row, ("drop", 0))
        self.assertIs(type(told), tuple)
        self.assertIs(type(told[0]), int)
        self.assertIs(type(told[1]), list)
        row.append(0)
        self.assertEqual(told, (1, [0]))
        told[1].append(7)
        self.assertEqual(traded(2, 0, [0, 0], ("drop", 0)), (1, [0]))

    def test_bad_trade(self):
        for trade in NO_TRADES:
            self.assertEqual(self.refused("BadTrade", traded, 3, 0, [0, 0], trade).at, 0)

    def test_bad_hook_ahead_of_bad_trade(self):
        for pegs in range(1, 11):
            for number in (-1, pegs - 1, pegs, THIRTY_FIGURES, -THIRTY_FIGURES):
                for trade in NO_TRADES + [("drop", 0)]:
                    self.refused("BadHook", traded, pegs, 0, [number, number], trade)
                    self.refused("BadHook", walked, pegs, 0, [number, number], [trade])
                self.refused("BadHook", walked, pegs, 0, [number, number], [])

    def test_bad_pegs_ahead_of_all_else(self):
        for pegs in BAD_PEG_COUNTS:
            for row in ([], [0, 0], [-1], [THIRTY_FIGURES]):
                for trade in NO_TRADES + [("drop", 0)]:
                    self.refused("BadPegs", traded, pegs, 0, row, trade)
                    self.refused("BadPegs", walked, pegs, 0, row, [trade])
                self.refused("BadPegs", walked, pegs, 0, row, [])


class WalkedTest(Refusals, unittest.TestCase):
    def test_one_behind_the_other(self):
        self.assertEqual(walked(3, 7, [], []), (7, []))
        self.assertEqual(walked(1, 7, [], []), (7, []))
        trades = [("double", 0), ("grow", 1, 1), ("cut", 1), ("drop", 0)]
        self.assertEqual(walked(3, 1, [0], trades[:1]), (0, [0, 0]))
        self.assertEqual(walked(3, 1, [0], trades[:2]), (0, [0, 0, 1, 0]))
        self.assertEqual(walked(3, 1, [0], trades), (1, [0]))

    def test_rings_of_thirty_figures(self):
        many = THIRTY_FIGURES
        self.assertEqual(walked(2, many, [0], [("double", 0)] * 3), (many - 3, [0] * 4))
        self.assertEqual(walked(2, many - 1, [0, 0], [("drop", 0)]), (many, [0]))

    def test_drawn_walks(self):
        draw = random.Random(22)
        for pegs in range(2, 11):
            for many in (5, 15, 60):
                pair = start = (2, drawn_row(draw, pegs, many))
                trades = []
                for _ in range(12):
                    good = [
                        trade for trade in trades_near(pegs, pair[1]) if expected_trade(pegs, *pair, trade)
                    ]
                    trades.append(draw.choice(good))
                    pair = expected_trade(pegs, *pair, trades[-1])
                self.assertEqual(walked(pegs, *start, trades), pair)
                self.assertEqual(makes(pegs, pair), makes(pegs, start))

    def test_the_place_of_the_first_that_cannot_be_made(self):
        for at in range(6):
            for trade in NO_TRADES:
                if trade == ("double", 0):
                    continue
                trades = [("drop", 0), ("double", 0)] * 3
                trades[at:at] = [trade, ("drop", -1)]
                # Behind a drop the row has one hook only, so no trade of two is there.
                self.assertEqual(self.refused("BadTrade", walked, 3, 0, [0, 0], trades).at, at)

    def test_what_a_trade_needs_may_come_of_the_one_ahead(self):
        self.assertEqual(self.refused("BadTrade", walked, 2, 1, [0], [("double", 0)] * 3).at, 1)
        self.assertEqual(self.refused("BadTrade", walked, 2, 0, [0, 0, 0], [("drop", 0)] * 3).at, 2)
        self.assertEqual(walked(2, 0, [0, 0], [("drop", 0), ("double", 0)]), (0, [0, 0]))

    def test_what_is_handed_in_stays(self):
        row, trades = [0, 0, 1, 0], [("drop", 0), ("cut", 0)]
        told = walked(3, 0, row, trades)
        self.assertEqual((row, trades), ([0, 0, 1, 0], [("drop", 0), ("cut", 0)]))
        row.clear()
        trades.clear()
        self.assertEqual(told, (1, [0]))
        row = [0, 1]
        told = walked(3, 0, row, [])
        told[1].append(5)
        self.assertEqual(row, [0, 1])
        trades = [("drop", 0), ("drop", 0)]
        row = [1, 1]
        self.refused("BadTrade", walked, 3, 0, row, trades)
        self.assertEqual((row, trades), ([1, 1], [("drop", 0), ("drop", 0)]))


class BridgeTest(Refusals, unittest.TestCase):
    def leads(self, pegs, one, other):
        kept = copy.deepcopy((one, other))
        trades = bridge(pegs, one, other)
        self.assertEqual((one, other), kept)
        if makes(pegs, one) != makes(pegs, other):
            self.assertIsNone(trades, (pegs, one, other))
            return
        self.assertIs(type(trades), list, (pegs, one, other))
        pair = one
        for trade in trades:
            self.assertIs(type(trade), tuple)
            pair = expected_trade(pegs, *pair, trade)
            self.assertIsNotNone(pair, (pegs, one, other, trade))
        self.assertEqual(pair, other)
        self.assertEqual(walked(pegs, *one, trades), other)

    def test_small(self):
        self.leads(3, (0, [0, 1, 0]), (0, [0]))
        self.leads(3, (0, [0]), (0, [0, 1, 0]))
        self.leads(2, (0, [0, 0]), (1, [0]))
        self.leads(2, (1, [0]), (0, [0, 0]))
        self.leads(4, (0, [0, 2]), (0, [2, 0]))
        self.leads(1, (3, []), (3, []))

    def test_none(self):
        self.assertIsNone(bridge(1, (3, []), (4, [])))
        self.assertIsNone(bridge(2, (0, []), (0, [0])))
        self.assertIsNone(bridge(2, (1, []), (0, [0])))
        self.assertIsNone(bridge(2, (0, [0]), (1, [0])))
        self.assertIsNone(bridge(2, (1, [0, 0]), (1, [0])))
        self.assertIsNone(bridge(3, (0, [0, 1]), (0, [1, 0])))

    def test_all_pairs_of_short_rows(self):
        for pegs, longest in ((1, 0), (2, 5), (3, 5), (4, 3), (5, 2)):
            rows = list(all_rows(pegs, longest))
            for one, other in itertools.product(rows, repeat=2):
                fallen = row_comes_to(pegs, one)[1] - row_comes_to(pegs, other)[1]
                for more in (0, 1):
                    self.leads(pegs, (max(0, -fallen) + more, one), (max(0, fallen), other))
                self.leads(pegs, (0, one), (0, other))

    def test_every_row_to_the_frames_own(self):
        for pegs, longest in ((3, 8), (4, 6), (5, 5)):
            for row in all_rows(pegs, longest):
                frame, rings = row_comes_to(pegs, row)
                self.leads(pegs, (0, row), (rings, shortest_row(frame)))

    def test_drawn_rows_of_thirty(self):
        draw = random.Random(23)
        for pegs in range(2, 11):
            for many in (12, 20, 30, 34):
                for _ in range(12):
                    row = drawn_row(draw, pegs, many)
                    frame, rings = row_comes_to(pegs, row)
                    least = shortest_row(frame)
                    self.leads(pegs, (0, row), (rings, least))
                    self.leads(pegs, (rings, least), (0, row))
                    self.leads(pegs, (0, row), (rings + 1, least))
                    self.leads(pegs, (0, row), (0, drawn_row(draw, pegs, many)))

    def test_two_drawn_rows_of_one_frame(self):
        draw = random.Random(24)
        for pegs in range(2, 11):
            for frame in some_frames(pegs, 8):
                start = (draw.randrange(6), shortest_row(frame))
                one = wandered(draw, pegs, start, 15, 30)
                other = wandered(draw, pegs, start, 15, 30)
                self.leads(pegs, one, other)
                self.leads(pegs, other, one)
                self.leads(pegs, one, one)

    def test_the_longest(self):
        self.leads(2, (0, [0] * 30), (29, [0]))
        self.leads(2, (0, [0] * 30), (0, [0] * 30))
        self.leads(10, (0, list(range(9)) + list(range(8, -1, -1))), (1, [0]))
        self.leads(10, (0, [0, 2, 4, 6, 8] * 6), (25, [8, 6, 4, 2, 0]))
        self.leads(10, (0, [4, 5] * 15), (0, [4, 5]))

    def test_rings_of_thirty_figures(self):
        many = THIRTY_FIGURES
        self.leads(3, (many, [0, 1]), (many - 2, [0, 1, 1, 1]))
        self.leads(3, (many, []), (many, []))
        self.leads(3, (many, [0]), (many, [0, 0]))
        self.leads(3, (many, [0]), (0, [0]))

    def test_a_told_list_that_is_changed_changes_nothing(self):
        told = bridge(2, (0, [0, 0]), (1, [0]))
        kept = list(told)
        told.clear()
        self.assertEqual(bridge(2, (0, [0, 0]), (1, [0])), kept)
        told = bridge(2, (0, []), (0, []))
        told.append(None)
        self.leads(2, (0, []), (0, []))

    def test_the_plain_frame(self):
        for pegs in range(1, 11):
            self.assertEqual(makes(pegs, (0, [])), (plain_of(pegs), 0))
            self.leads(pegs, (0, []), (0, []))

    def test_bad_hook(self):
        for pegs in (1, 2, 3, 10):
            for number in (-1, pegs - 1, THIRTY_FIGURES, -THIRTY_FIGURES):
                bad, good = (0, [number]), (0, [])
                self.refused("BadHook", bridge, pegs, bad, good)
                self.refused("BadHook", bridge, pegs, good, bad)
                self.refused("BadHook", bridge, pegs, (3, [number]), (4, []))
                self.refused("BadHook", bridge, pegs, bad, bad)

    def test_bad_pegs_ahead_of_bad_hook(self):
        for pegs in BAD_PEG_COUNTS:
            for pair in ((0, []), (0, [0]), (0, [-1])):
                self.refused("BadPegs", bridge, pegs, pair, (0, []))
                self.refused("BadPegs", bridge, pegs, (0, []), pair)


if __name__ == "__main__":
    unittest.main()
