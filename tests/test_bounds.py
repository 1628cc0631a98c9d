"""5.1, and 0.7 and 0.8 as far as they speak of it."""

import itertools
import random
import unittest

from busyweb.bounds import between
from busyweb.errors import BadFlow
from busyweb.rests import filled_whole
from busyweb.rings import bridges, free_ties
from busyweb.webs import Web, pieces
from samples import (HUGE, LONE, MIXED, ROW, TRIANGLE, drawn_web, large_webs, refusal, sample_webs, slow_is_flow,
                     small_webs)

THREE = Web(2, [(0, 1), (0, 1), (1, 0)])


def lies_between(flow, lows, highs):
    return all(low <= amount <= high for low, amount, high in zip(lows, flow, highs))


def is_shut(web, lows, highs, places):
    """Straight from the words of 5.1."""
    out = sum(low for (start, end), low in zip(web.ties, lows) if start in places and end not in places)
    back = sum(high for (start, end), high in zip(web.ties, highs) if start not in places and end in places)
    return out > back


def some_shut(web, lows, highs):
    sets = [places for size in range(web.many + 1) for places in itertools.combinations(range(web.many), size)]
    return any(is_shut(web, lows, highs, places) for places in sets)


def some_flow(lows, highs, web):
    ranges = [range(low, high + 1) for low, high in zip(lows, highs)]
    return any(slow_is_flow(web, flow) for flow in itertools.product(*ranges))


def drawn_bounds(chance, web, top):
    pairs = [sorted((chance.randint(-top, top), chance.randint(-top, top))) for tie in web.ties]
    return [low for low, high in pairs], [high for low, high in pairs]


def bounds_round(chance, web, top, room):
    """Bounds round a flow, so that there is one."""
    flow = filled_whole(web, [chance.randint(-top, top) for tie in free_ties(web)])
    return [amount - chance.randint(0, room) for amount in flow], [amount + chance.randint(0, room) for amount in flow]


class Checked(unittest.TestCase):
    def check(self, web, lows, highs):
        told = between(web, lows, highs)
        self.assertIsInstance(told, tuple)
        self.assertEqual(len(told), 2)
        self.assertIsInstance(told[1], list)
        if told[0] == "flow":
            self.assertEqual(len(told[1]), len(web.ties))
            self.assertTrue(slow_is_flow(web, told[1]))
            self.assertTrue(lies_between(told[1], lows, highs))
        else:
            self.assertEqual(told[0], "shut")
            self.assertEqual(told[1], sorted(set(told[1]) & set(range(web.many))))
            self.assertTrue(is_shut(web, lows, highs, told[1]))
        return told[0]


class Between(Checked):
    def test_just_one_flow(self):
        self.assertEqual(between(TRIANGLE, [2, 0, -5], [9, 2, 7]), ("flow", [2, 2, 2]))
        self.assertEqual(between(TRIANGLE, [-4, -9, -9], [0, -4, 3]), ("flow", [-4, -4, -4]))
        self.assertEqual(between(THREE, [1, 2, 0], [9, 9, 3]), ("flow", [1, 2, 3]))
        self.assertEqual(between(THREE, [-HUGE, -HUGE, -9], [-5, -4, HUGE]), ("flow", [-5, -4, -9]))
        self.assertEqual(between(LONE, [], []), ("flow", []))

    def test_just_one_shut_set(self):
        web = Web(2, [(0, 1), (1, 0)])
        self.assertEqual(between(web, [3, 0], [4, 2]), ("shut", [0]))
        self.assertEqual(between(web, [0, 3], [2, 4]), ("shut", [1]))
        self.assertEqual(between(web, [-4, -3], [-3, -2]), ("flow", [-3, -3]))
        self.assertEqual(between(web, [-4, -2], [-3, -1]), ("shut", [1]))

    def test_tuples_are_as_good(self):
        self.assertEqual(between(TRIANGLE, (2, 0, -5), (9, 2, 7)), ("flow", [2, 2, 2]))

    def test_lows_and_highs_alike(self):
        chance = random.Random(51)
        for web in sample_webs():
            for top in (2, HUGE):
                flow = filled_whole(web, [chance.randint(-top, top) for tie in free_ties(web)])
                self.assertEqual(between(web, flow, flow), ("flow", flow))
                for tie, (start, end) in enumerate(web.ties):
                    if start != end:
                        other = list(flow)
                        other[tie] += chance.choice((-1, 1))
                        self.assertEqual(self.check(web, other, other), "shut")
                        break

    def test_highs_that_are_nought(self):
        for web in [TRIANGLE, MIXED, ROW, THREE] + large_webs():
            size = len(web.ties)
            for low in (0, -1, -HUGE):
                self.assertEqual(self.check(web, [low] * size, [0] * size), "flow")
        self.assertEqual(between(TRIANGLE, [-5, 0, -5], [0, 0, 0]), ("flow", [0, 0, 0]))
        self.assertEqual(self.check(TRIANGLE, [-5, 0, -5], [-1, 0, 0]), "shut")

    def test_great_bounds_and_bounds_below_nought(self):
        self.assertEqual(self.check(TRIANGLE, [HUGE - 1, -HUGE, HUGE - 2], [HUGE] * 3), "flow")
        self.assertEqual(self.check(TRIANGLE, [HUGE, -HUGE, -HUGE], [HUGE, HUGE, HUGE - 1]), "shut")
        self.assertEqual(self.check(TRIANGLE, [-HUGE] * 3, [-HUGE + 1, -HUGE, -5]), "flow")
        self.assertEqual(self.check(THREE, [-9, -9, -17], [-8, -8, -15]), "flow")
        self.assertEqual(self.check(THREE, [-9, -9, -15], [-8, -8, -15]), "shut")

    def test_loops_whose_bounds_leave_nought_out(self):
        web = Web(3, [(1, 1), (0, 1), (1, 0), (2, 2)])
        told = between(web, [4, 1, 0, -HUGE], [6, 1, 9, -HUGE + 3])
        self.assertEqual(self.check(web, [4, 1, 0, -HUGE], [6, 1, 9, -HUGE + 3]), "flow")
        self.assertEqual(told[1][1:3], [1, 1])
        self.assertEqual(self.check(web, [4, 1, 0, -7], [6, 1, 0, -7]), "shut")
        self.assertEqual(between(Web(1, [(0, 0), (0, 0)]), [3, -3], [3, -3]), ("flow", [3, -3]))

    def test_bridges(self):
        for tie in range(3):
            lows = [-2] * 3
            highs = [2] * 3
            self.assertEqual(between(ROW, lows, highs), ("flow", [0, 0, 0]))
            for low, high in ((1, 2), (-2, -1), (HUGE, HUGE), (-HUGE, -HUGE)):
                lows[tie] = low
                highs[tie] = high
                self.assertEqual(self.check(ROW, lows, highs), "shut")
        for web in large_webs():
            for tie in bridges(web):
                lows = [-HUGE] * 40
                lows[tie] = 1
                self.assertEqual(self.check(web, lows, [HUGE] * 40), "shut")

    def test_several_pieces(self):
        web = Web(7, [(0, 3), (3, 0), (1, 4), (4, 5), (5, 1), (6, 6)])
        self.assertEqual(len(pieces(web)), 4)
        lows = [2, 0, 0, -9, 3, -5]
        self.assertEqual(self.check(web, lows, [2, 2, 4, 4, 4, -5]), "flow")
        self.assertEqual(self.check(web, lows, [2, 2, 4, 2, 4, -5]), "shut")
        self.assertEqual(self.check(web, lows, [2, 1, 4, 4, 4, -5]), "shut")


class ByTrial(Checked):
    def test_either_a_flow_or_a_shut_set_never_both(self):
        chance = random.Random(52)
        seen = {"flow": 0, "shut": 0}
        for web in small_webs() + [drawn_web(chance, 4, 5) for each in range(60)]:
            lows, highs = drawn_bounds(chance, web, 2)
            told = self.check(web, lows, highs)
            self.assertEqual(told == "flow", some_flow(lows, highs, web))
            self.assertEqual(told == "shut", some_shut(web, lows, highs))
            seen[told] += 1
        self.assertGreater(min(seen.values()), 50)

    def test_every_bounds_of_a_triangle_with_a_double_tie(self):
        web = Web(3, [(0, 1), (1, 2), (2, 0), (0, 2)])
        pairs = [(low, high) for low in (-2, 0, 1) for high in (-1, 0, 2) if low <= high]
        for bounds in itertools.product(pairs, repeat=4):
            lows = [low for low, high in bounds]
            highs = [high for low, high in bounds]
            self.assertEqual(self.check(web, lows, highs) == "flow", some_flow(lows, highs, web))


class Large(Checked):
    def test_bounds_round_a_flow(self):
        chance = random.Random(53)
        for web in sample_webs() + large_webs():
            for top, room in ((3, 1), (10 ** 20, 5), (HUGE // 50, HUGE // 500), (5, HUGE), (HUGE // 50, HUGE)):
                lows, highs = bounds_round(chance, web, top, room)
                self.assertEqual(self.check(web, lows, highs), "flow")

    def test_drawn_bounds(self):
        chance = random.Random(54)
        seen = {"flow": 0, "shut": 0}
        for web in sample_webs() + large_webs() * 4:
            for top in (3, HUGE):
                lows, highs = drawn_bounds(chance, web, top)
                seen[self.check(web, lows, highs)] += 1
        self.assertGreater(min(seen.values()), 20)

    def test_nearly_shut_and_just_shut(self):
        """A set of places out of which just as much must go as can come in, and then one more."""
        chance = random.Random(55)
        for web in large_webs() * 3:
            lows, highs = bounds_round(chance, web, HUGE // 50, HUGE // 50)
            places = chance.sample(range(20), chance.randint(1, 19))
            flow = between(web, lows, highs)[1]
            crossing = []
            for tie, (start, end) in enumerate(web.ties):
                if start in places and end not in places:
                    lows[tie] = flow[tie]
                    crossing.append(tie)
                if end in places and start not in places:
                    highs[tie] = flow[tie]
            self.assertEqual(self.check(web, lows, highs), "flow")
            if crossing:
                tie = chance.choice(crossing)
                lows[tie] += 1
                highs[tie] = max(lows[tie], highs[tie])
                self.assertEqual(self.check(web, lows, highs), "shut")


class Refused(unittest.TestCase):
    def test_one_number_short_or_long(self):
        for web in (TRIANGLE, MIXED, LONE, ROW, large_webs()[0]):
            size = len(web.ties)
            for length in (0, size - 1, size + 1, 45):
                if length < 0 or length == size:
                    continue
                self.assertIs(refusal(between, web, [0] * length, [1] * size), BadFlow)
                self.assertIs(refusal(between, web, [0] * size, [1] * length), BadFlow)
                self.assertIs(refusal(between, web, [0] * length, [1] * length), BadFlow)
                self.assertIs(refusal(between, web, [2] * length, [1] * length), BadFlow)

    def test_a_low_above_its_high(self):
        for web in (TRIANGLE, MIXED, ROW, large_webs()[0], Web(1, [(0, 0)])):
            size = len(web.ties)
            for tie in range(size):
                for low, high in ((1, 0), (0, -1), (HUGE, HUGE - 1), (5, -HUGE)):
                    lows = [-HUGE] * size
                    highs = [HUGE] * size
                    lows[tie] = low
                    highs[tie] = high
                    self.assertIs(refusal(between, web, lows, highs), BadFlow)

    def test_a_low_above_its_high_where_a_set_is_shut_too(self):
        self.assertIs(refusal(between, ROW, [1, 1, 1], [1, 1, 0]), BadFlow)


class Own(unittest.TestCase):
    def test_a_told_list_that_is_changed_is_told_whole_again(self):
        for highs in ([9, 2, 7], [9, 1, 7]):
            told = between(TRIANGLE, [2, 0, -5], highs)
            again = between(TRIANGLE, [2, 0, -5], highs)
            self.assertEqual(told, again)
            told[1].append(9)
            told[1][0] = 99
            self.assertEqual(between(TRIANGLE, [2, 0, -5], highs), again)

    def test_what_is_handed_in_stays_as_it_was(self):
        lows = [2, 2, 2]
        highs = [2, 2, 2]
        between(TRIANGLE, lows, highs)[1].clear()
        self.assertEqual((lows, highs), ([2, 2, 2], [2, 2, 2]))
        self.assertEqual(between(TRIANGLE, lows, lows), ("flow", [2, 2, 2]))
        self.assertEqual(TRIANGLE.ties, ((0, 1), (1, 2), (2, 0)))


if __name__ == "__main__":
    unittest.main()
