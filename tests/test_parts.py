"""3.2 and 3.4, the whole parts and two ways, and 0.7 and 0.8 as far as they speak of these."""

import random
import unittest

from busyweb.errors import BadPlace
from busyweb.parts import two_ways, whole_parts
from busyweb.rings import bridges
from busyweb.webs import Web, pieces
from samples import (LONE, MIXED, ROW, TRIANGLE, VAST, drawn_web, large_webs, reached_from, refusal, sample_webs,
                     slow_bridges, slow_pieces, small_webs)

# From 0 to 3 the shortest way, 0 1 2, shares a tie with each other one, and yet there are two ways.
CROSSED = Web(8, [(0, 1), (1, 2), (2, 3), (0, 4), (4, 5), (5, 2), (1, 6), (6, 7), (7, 3)])
# Two rings that have one place in common.
EIGHT = Web(5, [(0, 1), (1, 2), (2, 0), (3, 2), (4, 3), (2, 4)])


def slow_parts(web):
    lone = slow_bridges(web)
    return slow_pieces(web.many, [ends for tie, ends in enumerate(web.ties) if tie not in lone])


def places_along(web, way, start):
    """The places that a list of ties goes by, from the first one on; None where it doesn't go on somewhere."""
    places = [start]
    for tie in way:
        ends = web.ties[tie]
        if places[-1] not in ends:
            return None
        places.append(ends[1] if ends[0] == places[-1] else ends[0])
    return places


def pairs_of(web):
    return [(one, two) for one in range(web.many) for two in range(web.many)]


class WholeParts(unittest.TestCase):
    def test_whole_parts(self):
        self.assertEqual(whole_parts(LONE), [[0]])
        self.assertEqual(whole_parts(TRIANGLE), [[0, 1, 2]])
        self.assertEqual(whole_parts(MIXED), [[0], [1, 2, 4], [3, 5], [6], [7]])
        self.assertEqual(whole_parts(CROSSED), [[0, 1, 2, 3, 4, 5, 6, 7]])
        self.assertEqual(whole_parts(EIGHT), [[0, 1, 2, 3, 4]])

    def test_bridges_alone(self):
        self.assertEqual(whole_parts(ROW), [[0], [1], [2], [3]])
        self.assertEqual(whole_parts(Web(3, [(2, 0), (1, 1), (0, 0)])), [[0], [1], [2]])

    def test_several_ties_between_the_same_places(self):
        self.assertEqual(whole_parts(Web(2, [(0, 1)])), [[0], [1]])
        self.assertEqual(whole_parts(Web(2, [(0, 1), (0, 1)])), [[0, 1]])
        self.assertEqual(whole_parts(Web(2, [(0, 1), (1, 0)])), [[0, 1]])
        self.assertEqual(whole_parts(Web(4, [(3, 1), (1, 3), (3, 0), (2, 0), (0, 2)])), [[0, 2], [1, 3]])

    def test_by_their_least_places(self):
        self.assertEqual(whole_parts(Web(6, [(5, 0), (0, 5), (4, 1), (1, 4), (1, 0), (3, 2), (2, 3)])),
                         [[0, 5], [1, 4], [2, 3]])

    def test_over_many_webs(self):
        for web in sample_webs() + small_webs():
            told = whole_parts(web)
            self.assertEqual(told, slow_parts(web))
            if not bridges(web):
                self.assertEqual(told, pieces(web))

    def test_the_largest_webs_have_both_sorts(self):
        self.assertTrue([web for web in large_webs() if slow_bridges(web)])
        self.assertTrue([web for web in large_webs() if not slow_bridges(web)])


class TwoWays(unittest.TestCase):
    def check_way(self, web, way, one, two):
        self.assertIsInstance(way, list)
        places = places_along(web, way, one)
        self.assertIsNotNone(places)
        self.assertEqual(places[-1], two)
        self.assertEqual(len(set(places)), len(places))

    def check(self, web, one, two):
        told = two_ways(web, one, two)
        self.assertIsInstance(told, tuple)
        self.assertEqual(len(told), 2)
        for way in told:
            self.check_way(web, way, one, two)
        self.assertEqual(set(told[0]) & set(told[1]), set())
        self.assertIsNot(told[0], told[1])

    def test_two_ways(self):
        self.assertEqual(sorted(two_ways(TRIANGLE, 0, 1)), [[0], [2, 1]])
        self.assertEqual(sorted(two_ways(TRIANGLE, 1, 0)), [[0], [1, 2]])
        self.assertEqual(sorted(two_ways(Web(2, [(0, 0), (0, 1), (1, 0)]), 0, 1)), [[1], [2]])
        self.assertEqual(sorted(two_ways(CROSSED, 0, 3)), [[0, 6, 7, 8], [3, 4, 5, 2]])
        self.assertEqual(sorted(two_ways(CROSSED, 3, 0)), [[2, 5, 4, 3], [8, 7, 6, 0]])

    def test_two_ways_by_one_place(self):
        self.check(EIGHT, 0, 3)
        self.check(EIGHT, 4, 1)

    def test_none(self):
        for one, two in ((2, 3), (3, 2), (1, 5), (0, 1), (6, 7), (4, 6)):
            self.assertIsNone(two_ways(MIXED, one, two))
        for one, two in pairs_of(ROW):
            if one != two:
                self.assertIsNone(two_ways(ROW, one, two))

    def test_from_a_place_to_itself(self):
        for web in sample_webs():
            for place in range(web.many):
                told = two_ways(web, place, place)
                self.assertEqual(told, ([], []))
                self.assertIsInstance(told, tuple)
                self.assertIsNot(told[0], told[1])

    def test_all_pairs_of_many_webs(self):
        chance = random.Random(34)
        drawn = [drawn_web(chance, many, many + chance.randint(0, 3)) for many in range(4, 12) for each in range(8)]
        for web in sample_webs() + small_webs() + drawn + [CROSSED, EIGHT, ROW]:
            part = {place: number for number, places in enumerate(slow_parts(web)) for place in places}
            for one, two in pairs_of(web):
                if part[one] == part[two]:
                    self.check(web, one, two)
                else:
                    self.assertIsNone(two_ways(web, one, two))

    def test_none_where_a_bridge_parts_them(self):
        for web in [MIXED, ROW] + large_webs():
            lone = slow_bridges(web)
            for one, two in pairs_of(web):
                parted = two not in reached_from(web.ties, one) or any(
                    two not in reached_from(web.ties[:tie] + web.ties[tie + 1:], one) for tie in lone)
                self.assertEqual(two_ways(web, one, two) is None, parted)


class Refused(unittest.TestCase):
    def test_no_place(self):
        for web in [LONE, TRIANGLE, MIXED, Web(20, []), large_webs()[0]]:
            last = web.many - 1
            for place in (-1, -web.many, web.many, web.many + 1, VAST, -VAST):
                for one, two in ((place, 0), (0, place), (place, last), (last, place), (place, place)):
                    self.assertIs(refusal(two_ways, web, one, two), BadPlace)


class Own(unittest.TestCase):
    def test_changed_outside_and_within(self):
        told = whole_parts(MIXED)
        self.assertEqual(len({id(part) for part in told}), 5)
        told[1].append(9)
        told.pop()
        self.assertEqual(whole_parts(MIXED), [[0], [1, 2, 4], [3, 5], [6], [7]])
        for one, two in ((0, 3), (2, 2)):
            told = two_ways(CROSSED, one, two)
            again = two_ways(CROSSED, one, two)
            self.assertEqual(told, again)
            told[0].append(9)
            self.assertEqual(told[1], again[1])
            told[1].clear()
            self.assertEqual(two_ways(CROSSED, one, two), again)

    def test_the_web_stays_as_it_was(self):
        ties = [(0, 1), (1, 2), (2, 0), (2, 3)]
        web = Web(4, ties)
        whole_parts(web)
        two_ways(web, 0, 2)
        self.assertEqual((web.many, web.ties), (4, tuple(ties)))


if __name__ == "__main__":
    unittest.main()
