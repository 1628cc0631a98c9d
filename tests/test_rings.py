"""0.5, 3.1 to 3.3, the first sentence of 3.4, and 0.7 as far as it speaks of rings."""

import itertools
import random
import unittest

from busyweb.errors import BadTie
from busyweb.flows import added, gain, is_flow, times
from busyweb.rings import bridges, forest, free_ties, ring_of, ring_through
from busyweb.webs import Web, pieces
from samples import (LONE, MIXED, ROW, TRIANGLE, VAST, large_webs, reached_from, sample_webs, slow_bridges,
                     slow_pieces, small_webs)


def slow_forest(web):
    """The words of 0.5: a tie is taken whose ends don't hang together yet."""
    taken = []
    for tie, (start, end) in enumerate(web.ties):
        if end not in reached_from([web.ties[one] for one in taken], start):
            taken.append(tie)
    return taken


def is_ring_flow(web, flow):
    """1 and -1 along one ring, in its sense: a flow whose ties hang together, two ends at each of their places."""
    on = [web.ties[tie] for tie, amount in enumerate(flow) if amount]
    places = [end for pair in on for end in pair]
    return (set(flow) <= {-1, 0, 1} and bool(on) and is_flow(web, flow)
            and all(places.count(place) == 2 for place in places)
            and reached_from(on, places[0]) == set(places))


class Forests(unittest.TestCase):
    def test_forest_and_free_ties(self):
        self.assertEqual(forest(TRIANGLE), [0, 1])
        self.assertEqual(free_ties(TRIANGLE), [2])
        self.assertEqual(forest(MIXED), [0, 1, 3, 4])
        self.assertEqual(free_ties(MIXED), [2, 5, 6, 7])
        self.assertEqual(forest(LONE), [])
        self.assertEqual(free_ties(LONE), [])
        self.assertEqual(forest(Web(2, [(0, 0), (1, 0), (0, 1), (1, 1)])), [1])
        self.assertEqual(free_ties(Web(2, [(0, 0), (1, 0), (0, 1), (1, 1)])), [0, 2, 3])

    def test_over_many_webs(self):
        for web in sample_webs() + small_webs():
            taken = forest(web)
            free = free_ties(web)
            self.assertEqual(taken, slow_forest(web))
            self.assertEqual(sorted(taken + free), list(range(len(web.ties))))
            self.assertEqual(free, sorted(free))
            self.assertEqual(len(free), len(web.ties) - web.many + len(pieces(web)))
            kept = [web.ties[tie] for tie in taken]
            self.assertEqual(slow_pieces(web.many, kept), pieces(web))

    def test_bridges(self):
        self.assertEqual(bridges(TRIANGLE), [])
        self.assertEqual(bridges(MIXED), [3])
        self.assertEqual(bridges(LONE), [])
        self.assertEqual(bridges(ROW), [0, 1, 2])
        self.assertEqual(bridges(Web(2, [(0, 1), (1, 0)])), [])
        self.assertEqual(bridges(Web(2, [(0, 0), (0, 1), (1, 1)])), [1])
        self.assertEqual(bridges(Web(6, [(5, 4), (0, 1), (1, 2), (2, 0), (2, 3)])), [0, 4])

    def test_bridges_over_many_webs(self):
        for web in sample_webs() + small_webs():
            told = bridges(web)
            self.assertEqual(told, slow_bridges(web))
            self.assertTrue(set(told) <= set(forest(web)))

    def test_a_bridge_carries_nothing(self):
        chance = random.Random(5)
        for web in sample_webs():
            flow = [0] * len(web.ties)
            for tie in free_ties(web):
                flow = added(flow, times(chance.randint(-9, 9), ring_of(web, tie)))
            self.assertEqual([flow[tie] for tie in bridges(web)], [0] * len(bridges(web)))


class Rings(unittest.TestCase):
    def test_ring_of(self):
        self.assertEqual(ring_of(TRIANGLE, 2), [1, 1, 1])
        self.assertEqual(ring_of(MIXED, 2), [1, 1, 1, 0, 0, 0, 0, 0])
        self.assertEqual(ring_of(MIXED, 5), [0, 0, 0, 0, 1, 1, 0, 0])
        self.assertEqual(ring_of(MIXED, 6), [0, 0, 0, 0, 0, 0, 1, 0])
        self.assertEqual(ring_of(Web(2, [(0, 1), (0, 1)]), 1), [-1, 1])
        self.assertEqual(ring_of(Web(4, [(0, 1), (2, 1), (2, 3), (0, 3)]), 3), [-1, 1, -1, 1])

    def test_ring_of_each_free_tie(self):
        for web in sample_webs() + small_webs():
            free = free_ties(web)
            for tie in free:
                flow = ring_of(web, tie)
                self.assertIsInstance(flow, list)
                self.assertTrue(is_ring_flow(web, flow))
                self.assertEqual([flow[one] for one in free], [1 if one == tie else 0 for one in free])

    def test_each_flow_is_a_sum_of_ring_flows(self):
        webs = [web for web in small_webs() if len(web.ties) == 3]
        for web in webs + [MIXED, Web(2, [(0, 1), (1, 0), (0, 1), (0, 0)])]:
            for flow in itertools.product((-2, 0, 1), repeat=len(web.ties)):
                built = [0] * len(web.ties)
                for tie in free_ties(web):
                    built = added(built, times(flow[tie], ring_of(web, tie)))
                self.assertTrue(is_flow(web, built))
                self.assertEqual(is_flow(web, flow), built == list(flow))

    def test_ring_of_is_refused_at_a_tie_of_the_forest(self):
        for web in sample_webs() + [ROW]:
            for tie in forest(web):
                with self.assertRaises(BadTie):
                    ring_of(web, tie)

    def test_ring_through(self):
        self.assertEqual([ring_through(TRIANGLE, tie) for tie in range(3)], [[1, 1, 1]] * 3)
        self.assertEqual(ring_through(Web(2, [(0, 1), (0, 1)]), 0), [1, -1])
        self.assertEqual(ring_through(Web(2, [(1, 0), (1, 1)]), 1), [0, 1])
        self.assertIsNone(ring_through(Web(2, [(1, 0), (1, 1)]), 0))
        self.assertIsNone(ring_through(MIXED, 3))

    def test_ring_through_each_tie(self):
        for web in sample_webs() + small_webs():
            lone = slow_bridges(web)
            for tie in range(len(web.ties)):
                flow = ring_through(web, tie)
                if tie in lone:
                    self.assertIsNone(flow)
                else:
                    self.assertIsInstance(flow, list)
                    self.assertTrue(is_ring_flow(web, flow))
                    self.assertEqual(flow[tie], 1)

    def test_no_tie(self):
        for web in [LONE, TRIANGLE, MIXED, ROW] + large_webs():
            size = len(web.ties)
            for tie in (-1, -2, -size - 1, size, size + 1, VAST):
                with self.assertRaises(BadTie):
                    ring_of(web, tie)
                with self.assertRaises(BadTie):
                    ring_through(web, tie)

    def test_gains_of_a_ring_turned_against(self):
        flow = times(-1, ring_of(TRIANGLE, 2))
        self.assertEqual(flow, [-1, -1, -1])
        self.assertEqual([gain(TRIANGLE, flow, place) for place in range(3)], [0, 0, 0])


class Own(unittest.TestCase):
    def test_a_told_list_that_is_changed_is_told_whole_again(self):
        asked = (forest, free_ties, bridges, lambda web: ring_of(web, 2), lambda web: ring_through(web, 0))
        for ask in asked:
            first = ask(MIXED)
            again = ask(MIXED)
            self.assertEqual(first, again)
            first.clear()
            self.assertEqual(ask(MIXED), again)

    def test_the_web_stays_as_it_was(self):
        ties = [(0, 1), (1, 2), (2, 0), (2, 2)]
        web = Web(3, ties)
        for ask in (forest, free_ties, bridges):
            ask(web)
        for tie in (2, 3):
            ring_of(web, tie)
            ring_through(web, tie)
        self.assertEqual(ties, [(0, 1), (1, 2), (2, 0), (2, 2)])
        self.assertEqual((web.many, web.ties), (3, tuple(ties)))


if __name__ == "__main__":
    unittest.main()
