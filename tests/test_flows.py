"""0.3, 2.1 to 2.3, and 0.7 as far as it speaks of amount lists."""

import random
import unittest

from busyweb.errors import BadFlow, BadPlace, BadTie
from busyweb.flows import across, added, gain, is_busy, is_flow, times, turned_flow, within
from busyweb.rings import free_ties, ring_of
from busyweb.webs import Web, turned
from samples import HUGE, LONE, MIXED, TRIANGLE, VAST, sample_webs, slow_gains


def drawn_amounts(chance, web):
    top = chance.choice((1, 3, HUGE))
    return [chance.randint(-top, top) for tie in web.ties]


def drawn_flow(chance, web):
    told = [0] * len(web.ties)
    for tie in free_ties(web):
        told = added(told, times(chance.randint(-5, 5), ring_of(web, tie)))
    return told


class Gains(unittest.TestCase):
    def test_gain(self):
        self.assertEqual([gain(TRIANGLE, [5, 3, 1], place) for place in range(3)], [-4, 2, 2])
        self.assertEqual([gain(TRIANGLE, [-5, 0, 1], place) for place in range(3)], [6, -5, -1])
        self.assertEqual(gain(LONE, [], 0), 0)

    def test_a_loop_gains_nothing(self):
        web = Web(2, [(0, 0), (0, 1), (1, 1)])
        self.assertEqual([gain(web, [7, 2, -9], place) for place in range(2)], [-2, 2])
        self.assertTrue(is_flow(web, [7, 0, -9]))

    def test_amounts_of_40_figures(self):
        web = Web(2, [(0, 1), (0, 1), (1, 0)])
        self.assertEqual(gain(web, [HUGE, HUGE, -HUGE], 1), 3 * HUGE)
        self.assertEqual(gain(web, [HUGE, HUGE, -HUGE], 0), -3 * HUGE)
        self.assertTrue(is_flow(TRIANGLE, [HUGE] * 3))
        self.assertFalse(is_flow(TRIANGLE, [HUGE, HUGE, HUGE - 1]))
        self.assertEqual(across(TRIANGLE, [HUGE, 1, -HUGE], [0]), 2 * HUGE)
        self.assertEqual(added([HUGE], [HUGE]), [2 * HUGE])
        self.assertEqual(times(HUGE, [-HUGE]), [-HUGE * HUGE])
        self.assertTrue(within([HUGE, -HUGE], HUGE + 1))
        self.assertFalse(within([HUGE], HUGE))

    def test_over_many_webs(self):
        chance = random.Random(1)
        for web in sample_webs():
            flow = drawn_amounts(chance, web)
            told = [gain(web, flow, place) for place in range(web.many)]
            self.assertEqual(told, slow_gains(web, flow))
            self.assertEqual([gain(web, tuple(flow), place) for place in range(web.many)], told)
            self.assertEqual(sum(told), 0)
            self.assertIs(is_flow(web, flow), set(told) == {0})

    def test_is_flow(self):
        for flow in ([1, 1, 1], (1, 1, 1), [0, 0, 0], [-4, -4, -4]):
            self.assertIs(is_flow(TRIANGLE, flow), True)
        for flow in ([1, 1, 0], (1, 1, -1), [2, 1, 1], [0, 0, 1]):
            self.assertIs(is_flow(TRIANGLE, flow), False)
        self.assertIs(is_flow(LONE, []), True)
        self.assertIs(is_flow(LONE, ()), True)
        self.assertIs(is_flow(Web(2, [(0, 1), (0, 1)]), [3, -3]), True)
        self.assertIs(is_flow(Web(2, [(0, 1), (0, 1)]), [3, 3]), False)


class Sizes(unittest.TestCase):
    def test_is_busy(self):
        for flow in ([], (), [1], [-1, 2], (3, -4), [HUGE]):
            self.assertIs(is_busy(flow), True)
        for flow in ([0], (0,), [1, 0], [0, -2, 3], (3, 0, 4)):
            self.assertIs(is_busy(flow), False)

    def test_within(self):
        self.assertIs(within([5, -5, 0], 6), True)
        self.assertIs(within((5, -5, 0), 6), True)
        self.assertIs(within([5, -5, 0], 5), False)
        self.assertIs(within([4, -5], 5), False)
        self.assertIs(within([5, -4], 5), False)
        self.assertIs(within([0], 1), True)
        self.assertIs(within([1], 1), False)
        self.assertIs(within([-1], 1), False)

    def test_within_nought_and_below(self):
        for most in (0, -1, -6, -HUGE):
            self.assertIs(within([0], most), False)
            self.assertIs(within([1, -1], most), False)
            self.assertIs(within([3], most), False)
            self.assertIs(within([-3], most), False)

    def test_within_of_an_empty_list(self):
        for most in (-HUGE, -1, 0, 1, 6):
            self.assertIs(within([], most), True)
            self.assertIs(within((), most), True)


class Across(unittest.TestCase):
    def test_across(self):
        self.assertEqual(across(TRIANGLE, [5, 3, 1], [0]), 4)
        self.assertEqual(across(TRIANGLE, [5, 3, 1], [1]), -2)
        self.assertEqual(across(TRIANGLE, [5, 3, 1], [1, 0]), 2)
        self.assertEqual(across(TRIANGLE, (5, 3, 1), [2, 1]), -4)
        web = Web(3, [(0, 0), (0, 1), (1, 0), (1, 2)])
        self.assertEqual(across(web, [9, 4, 1, 7], [0]), 3)
        self.assertEqual(across(web, [9, 4, 1, 7], [0, 1]), 7)

    def test_no_places_and_all_places(self):
        for web in sample_webs():
            flow = list(range(1, len(web.ties) + 1))
            self.assertEqual(across(web, flow, []), 0)
            self.assertEqual(across(web, flow, list(range(web.many))), 0)

    def test_what_the_places_lose_together(self):
        chance = random.Random(2)
        for web in sample_webs():
            flow = drawn_amounts(chance, web)
            places = chance.sample(range(web.many), chance.randint(0, web.many))
            inner = sum(slow_gains(web, flow)[place] for place in places)
            self.assertEqual(across(web, flow, places), -inner)
            self.assertEqual(across(web, drawn_flow(chance, web), places), 0)


class Changed(unittest.TestCase):
    def test_added(self):
        self.assertEqual(added([1, 2], [3, -5]), [4, -3])
        self.assertEqual(added((1, 2), [3, -5]), [4, -3])
        self.assertEqual(added((1, 2), (3, -5)), [4, -3])
        self.assertEqual(added([], ()), [])

    def test_times(self):
        self.assertEqual(times(3, [1, -2, 0]), [3, -6, 0])
        self.assertEqual(times(-1, (1, -2, 0)), [-1, 2, 0])
        self.assertEqual(times(0, [1, -2]), [0, 0])
        self.assertEqual(times(5, ()), [])

    def test_turned_flow(self):
        self.assertEqual(turned_flow(TRIANGLE, [4, 5, 6], 0), [-4, 5, 6])
        self.assertEqual(turned_flow(TRIANGLE, (4, 5, 6), 1), [4, -5, 6])
        self.assertEqual(turned_flow(TRIANGLE, [4, 5, -6], 2), [4, 5, 6])
        self.assertEqual(turned_flow(Web(1, [(0, 0)]), [3], 0), [-3])

    def test_flows_stay_flows(self):
        chance = random.Random(3)
        for web in sample_webs():
            one = drawn_flow(chance, web)
            two = drawn_flow(chance, web)
            self.assertTrue(is_flow(web, added(one, two)))
            for number in (-3, -1, 0, 1, 7):
                self.assertTrue(is_flow(web, times(number, one)))
                self.assertEqual(is_busy(times(number, one)), is_busy(one) if number else not one)
            for tie in range(len(web.ties)):
                other = turned_flow(web, one, tie)
                self.assertTrue(is_flow(turned(web, tie), other))
                self.assertEqual(is_busy(other), is_busy(one))

    def test_all_kinds_of_lists_come_as_lists(self):
        for flow in ([1, 2, 3], (1, 2, 3)):
            for told in (added(flow, flow), times(2, flow), turned_flow(TRIANGLE, flow, 1)):
                self.assertIsInstance(told, list)


class Refused(unittest.TestCase):
    def test_one_number_short_or_long(self):
        for web in (TRIANGLE, MIXED, LONE):
            size = len(web.ties)
            for length in (0, size - 1, size + 1, 41):
                if length in (-1, size):
                    continue
                for flow in ([0] * length, (0,) * length):
                    with self.assertRaises(BadFlow):
                        is_flow(web, flow)
                    with self.assertRaises(BadFlow):
                        gain(web, flow, 0)
                    with self.assertRaises(BadFlow):
                        across(web, flow, [])
                    with self.assertRaises(BadFlow):
                        across(web, flow, [0])
                    if size:
                        with self.assertRaises(BadFlow):
                            turned_flow(web, flow, size - 1)

    def test_added_of_unlike_lengths(self):
        for one, two in (([1], []), ([], [0]), ([1, 2], [1]), ((1, 2), [1, 2, 3])):
            with self.assertRaises(BadFlow):
                added(one, two)

    def test_bad_place(self):
        for flow in ([1, 1, 1], [1, 1], [1, 1, 1, 1]):
            for place in (-1, -3, 3, 4, VAST, -VAST):
                with self.assertRaises(BadPlace):
                    gain(TRIANGLE, flow, place)
                for places in ([place], [0, place], [place, 0, 1, 2]):
                    with self.assertRaises(BadPlace):
                        across(TRIANGLE, flow, places)

    def test_bad_tie(self):
        for flow in ([1, 1, 1], [1, 1], [1, 1, 1, 1]):
            for tie in (-1, -3, 3, 4, VAST, -VAST):
                with self.assertRaises(BadTie):
                    turned_flow(TRIANGLE, flow, tie)
        with self.assertRaises(BadTie):
            turned_flow(LONE, [], 0)


class Own(unittest.TestCase):
    def test_what_is_handed_in_stays_as_it_was(self):
        flow = [4, 5, 6]
        places = [2, 0]
        for told in (added(flow, flow), times(1, flow), turned_flow(TRIANGLE, flow, 0)):
            told[0] = 99
            told.append(1)
        gain(TRIANGLE, flow, 0)
        is_flow(TRIANGLE, flow)
        across(TRIANGLE, flow, places)
        self.assertEqual(flow, [4, 5, 6])
        self.assertEqual(places, [2, 0])

    def test_a_told_list_that_is_changed_is_told_whole_again(self):
        for ask in (lambda: added([1, 2, 3], [0, 0, 0]), lambda: times(1, (1, 2, 3)),
                    lambda: turned_flow(TRIANGLE, (1, -2, 3), 1)):
            ask().clear()
            self.assertEqual(ask(), [1, 2, 3])


if __name__ == "__main__":
    unittest.main()
