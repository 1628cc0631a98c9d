"""7.4, two forests without a common tie or a parting, and 0.7 as far as it speaks of these."""

import itertools
import random
import unittest

from busyweb.forests import parting_shows, two_forests
from busyweb.layers import from_forests
from busyweb.parts import whole_parts
from busyweb.rings import bridges
from busyweb.webs import Web, pieces
from samples import (FOUR, LONE, MIXED, ROW, TRIANGLE, VAST, drawn_web, large_webs, sample_webs, slow_is_flow,
                     slow_is_spanning, slow_pieces, small_webs, spanning_forests)


def partings(places):
    """Every parting of so many places."""
    if places == 0:
        return [[]]
    told = []
    for lists in partings(places - 1):
        last = places - 1
        told.append(lists + [[last]])
        for at in range(len(lists)):
            told.append(lists[:at] + [lists[at] + [last]] + lists[at + 1:])
    return [sorted(lists) for lists in told]


def crossing(web, lists):
    at = {place: number for number, some in enumerate(lists) for place in some}
    return sum(at[start] != at[end] for start, end in web.ties)


def slow_shows(web, lists):
    """Straight from the words of 7.4, of a list that is a parting."""
    return crossing(web, lists) < 2 * (len(lists) - len(slow_pieces(web.many, web.ties)))


def is_parting(web, lists):
    return (sorted(place for some in lists for place in some) == list(range(web.many))
            and all(some and some == sorted(some) for some in lists) and lists == sorted(lists))


def two_trees(chance, many, more):
    """A web of one piece, made of two drawn trees and some ties more, in a drawn order."""
    ties = []
    for each in range(2):
        order = chance.sample(range(many), many)
        ties += [(order[at], order[chance.randrange(at)]) for at in range(1, many)]
    ties += [(chance.randrange(many), chance.randrange(many)) for each in range(more)]
    return Web(many, chance.sample(ties, len(ties)))


def has_two_forests(web):
    forests = spanning_forests(web)
    return any(not set(one) & set(two) for one in forests for two in forests)


class TwoForests(unittest.TestCase):
    def check(self, web):
        told = two_forests(web)
        self.assertIsInstance(told, tuple)
        if told[0] == "forests":
            self.assertEqual(len(told), 3)
            for some in told[1:]:
                self.assertIsInstance(some, list)
                self.assertEqual(some, sorted(set(some)))
                self.assertTrue(slow_is_spanning(web, some))
            self.assertFalse(set(told[1]) & set(told[2]))
            self.assertIsNot(told[1], told[2])
            return True
        self.assertEqual((told[0], len(told)), ("parting", 2))
        self.assertIsInstance(told[1], list)
        self.assertTrue(all(isinstance(some, list) for some in told[1]))
        self.assertTrue(is_parting(web, told[1]))
        self.assertTrue(slow_shows(web, told[1]))
        self.assertIs(parting_shows(web, told[1]), True)
        return False

    def test_forests(self):
        for web in (FOUR, Web(2, [(0, 1), (0, 1)]), Web(2, [(0, 1), (1, 0), (1, 1)]),
                    Web(4, [(0, 2), (1, 3), (3, 1), (2, 0)]), Web(3, [(0, 1), (1, 2), (2, 1), (2, 0)])):
            self.assertTrue(self.check(web))
        self.assertEqual(sorted(two_forests(Web(2, [(0, 1), (0, 1)]))[1:]), [[0], [1]])

    def test_webs_of_one_place_and_loops_only(self):
        self.assertEqual(two_forests(LONE), ("forests", [], []))
        self.assertEqual(two_forests(Web(1, [(0, 0)] * 40)), ("forests", [], []))
        self.assertEqual(two_forests(Web(20, [])), ("forests", [], []))
        self.assertEqual(two_forests(Web(20, [(place, place) for place in range(20)] * 2)), ("forests", [], []))

    def test_bridges(self):
        for web in (ROW, MIXED, Web(2, [(0, 1)]), Web(2, [(0, 1), (0, 0), (1, 1)])):
            self.assertFalse(self.check(web))
        self.assertEqual(two_forests(Web(2, [(1, 0)])), ("parting", [[0], [1]]))
        thick = [(0, 1), (1, 2), (2, 0)] * 6
        self.assertFalse(self.check(Web(6, thick + [(2, 3)] + [(start + 3, end + 3) for start, end in thick])))

    def test_rings(self):
        for many in range(1, 21):
            ring = [(place, (place + 1) % many) for place in range(many)]
            self.assertEqual(self.check(Web(many, ring)), many <= 2)
            self.assertTrue(self.check(Web(many, ring + ring)))
            self.assertTrue(self.check(Web(many, (ring + ring)[:2 * many - 2])))
            if many > 1:
                self.assertFalse(self.check(Web(many, (ring[:-1] + ring)[:2 * many - 3])))

    def test_several_pieces(self):
        pair = [(0, 1), (1, 0)]
        web = Web(8, [(start + low, end + low) for low in (0, 2, 4, 6) for start, end in pair])
        self.assertTrue(self.check(web))
        self.assertFalse(self.check(Web(8, web.ties[:-1])))
        self.assertTrue(self.check(Web(20, web.ties)))
        self.assertFalse(self.check(Web(11, web.ties + ((8, 9), (9, 10), (10, 8)))))

    def test_small_webs_by_trial(self):
        for web in small_webs():
            self.assertEqual(self.check(web), has_two_forests(web))

    def test_drawn_webs_by_trial(self):
        chance = random.Random(82)
        webs = [drawn_web(chance, many, 2 * many - 2 + chance.randint(-1, 2))
                for many in range(2, 6) for each in range(25)]
        answers = [self.check(web) for web in webs]
        self.assertEqual(answers, [has_two_forests(web) for web in webs])
        self.assertIn(True, answers[25:])
        self.assertIn(False, answers[25:])

    def test_never_both(self):
        chance = random.Random(83)
        webs = [drawn_web(chance, chance.randint(1, 5), chance.randint(0, 10)) for each in range(60)]
        for web in webs + small_webs()[::3] + [FOUR, ROW, TRIANGLE]:
            shown = any(parting_shows(web, lists) for lists in partings(web.many))
            self.assertEqual(self.check(web), not shown)

    def test_just_two_trees(self):
        chance = random.Random(84)
        for many in range(1, 21):
            for more in (0, 0, 1, 2):
                web = two_trees(chance, many, more)
                self.assertTrue(self.check(web))
            if many > 1:
                fewer = two_trees(chance, many, 0).ties[1:]
                self.assertFalse(self.check(Web(many, fewer)))

    def test_dense_and_thin(self):
        """A thick corner doesn't make up for a thin one."""
        chance = random.Random(85)
        for each in range(10):
            thick = two_trees(chance, 8, 12).ties
            ring = [(8, 9), (9, 10), (10, 11), (11, 8), (8, 0), (10, 3), (9, 5)]
            web = Web(12, chance.sample(list(thick) + ring, len(thick) + len(ring)))
            self.assertFalse(self.check(web))

    def test_large_webs(self):
        answers = [self.check(web) for web in sample_webs()]
        self.assertIn(True, answers)
        self.assertIn(False, answers)
        chance = random.Random(86)
        self.assertTrue(self.check(two_trees(chance, 20, 2)))
        self.assertTrue(self.check(Web(2, [(0, 1)] * 40)))
        self.assertTrue(self.check(Web(20, [(place, (place + step) % 20) for step in (1, 7) for place in range(20)])))
        self.assertIn(False, [self.check(web) for web in large_webs()])

    def test_a_flow_comes_of_the_forests(self):
        chance = random.Random(87)
        for many in (1, 2, 7, 13, 20):
            web = two_trees(chance, many, 2)
            told = two_forests(web)
            flow = from_forests(web, told[1], told[2])
            self.assertTrue(slow_is_flow(web, flow))
            self.assertTrue(all(0 < abs(amount) < 4 for amount in flow))


class PartingShows(unittest.TestCase):
    def test_partings_that_show(self):
        self.assertIs(parting_shows(ROW, [[0], [1], [2], [3]]), True)
        self.assertIs(parting_shows(ROW, [[0, 1], [2, 3]]), True)
        self.assertIs(parting_shows(TRIANGLE, [[0], [1], [2]]), True)
        self.assertIs(parting_shows(MIXED, [[0], [1, 2, 4], [3, 5], [6], [7]]), True)

    def test_crossed_by_just_enough(self):
        self.assertIs(parting_shows(TRIANGLE, [[0, 1], [2]]), False)
        self.assertIs(parting_shows(FOUR, [[0], [1], [2], [3]]), False)
        self.assertIs(parting_shows(Web(2, [(0, 1), (1, 0)]), [[0], [1]]), False)
        self.assertIs(parting_shows(Web(2, [(0, 1)]), [[0], [1]]), True)
        self.assertIs(parting_shows(Web(3, [(0, 1), (1, 2), (2, 0), (1, 0)]), [[0], [1], [2]]), False)

    def test_as_many_lists_as_pieces_or_fewer(self):
        self.assertIs(parting_shows(LONE, [[0]]), False)
        self.assertIs(parting_shows(ROW, [[0, 1, 2, 3]]), False)
        self.assertIs(parting_shows(Web(3, []), [[0], [1], [2]]), False)
        self.assertIs(parting_shows(Web(3, []), [[0, 1, 2]]), False)
        self.assertIs(parting_shows(Web(4, [(0, 1)]), [[0, 2], [1], [3]]), False)
        self.assertIs(parting_shows(Web(4, [(0, 1)]), [[0], [1], [2], [3]]), True)

    def test_loops_cross_nothing(self):
        self.assertIs(parting_shows(Web(2, [(0, 1), (0, 0), (1, 1), (1, 1)]), [[0], [1]]), True)

    def test_every_parting_of_small_webs(self):
        chance = random.Random(88)
        webs = [drawn_web(chance, chance.randint(1, 5), chance.randint(0, 8)) for each in range(60)]
        for web in webs + small_webs()[::3]:
            for lists in partings(web.many):
                self.assertIs(parting_shows(web, lists), slow_shows(web, lists))

    def test_no_partings(self):
        for lists in ([], [[]], [[], []], [[0, 1, 2]], [[0], [1], [2]], [[0], [1], [2], [3], []],
                      [[], [0], [1], [2], [3]], [[0], [], [1], [2], [3]], [[0], [1], [2], [3], [3]],
                      [[0], [0], [1], [2], [3]], [[0], [1], [2], [3, 3]], [[0], [1], [2], [2, 3]], [[0], [1], [3]],
                      [[1], [0], [2], [3]], [[0], [1], [3], [2]], [[2, 3], [0, 1]], [[1, 0], [2, 3]],
                      [[0, 1], [3, 2]], [[0], [1], [2], [3], [4]], [[-1], [0], [1], [2], [3]], [[0], [1], [2], [4]],
                      [[-1], [0], [1], [2]], [[0], [1], [2], [-1]], [[0], [1], [2], [3], [VAST]],
                      [[-VAST], [0], [1], [2], [3]], [[0, 1, 2], [0, 3]], [[0, 1], [1, 2, 3]]):
            self.assertIs(parting_shows(ROW, lists), False, lists)

    def test_every_list_of_few_places(self):
        parts = [list(some) for size in range(3) for some in itertools.product((-1, 0, 1, 2), repeat=size)]
        web = Web(2, [(0, 1)])
        for size in range(4):
            for lists in itertools.product(parts, repeat=size):
                self.assertIs(parting_shows(web, list(lists)), list(lists) == [[0], [1]])


class Own(unittest.TestCase):
    def test_changed_outside_and_within(self):
        for web in (FOUR, LONE, ROW, MIXED):
            told = two_forests(web)
            again = two_forests(web)
            self.assertEqual(told, again)
            kept = [[list(some) if isinstance(some, list) else some for some in part] for part in again[1:]]
            inner = [some for part in told[1:] for some in part if isinstance(some, list)]
            lists = list(told[1:]) + inner
            self.assertEqual(len({id(some) for some in lists}), len(lists))
            for some in lists:
                some.append(9)
            self.assertEqual(list(again[1:]), kept)
            self.assertEqual(two_forests(web), again)

    def test_what_is_handed_in_stays(self):
        lists = [[0], [1, 2], [3]]
        inner = list(lists)
        self.assertIs(parting_shows(ROW, lists), True)
        self.assertEqual(lists, [[0], [1, 2], [3]])
        self.assertTrue(all(one is two for one, two in zip(lists, inner)))
        wrong = [[3], [2, 1], [0]]
        parting_shows(ROW, wrong)
        self.assertEqual(wrong, [[3], [2, 1], [0]])
        ties = FOUR.ties
        two_forests(FOUR)
        self.assertEqual((FOUR.many, FOUR.ties), (4, ((0, 1), (0, 2), (3, 0), (1, 2), (1, 3), (2, 3))))
        self.assertIs(FOUR.ties, ties)

    def test_what_was_told_may_be_handed_in(self):
        for web in [ROW, MIXED, TRIANGLE] + large_webs():
            told = two_forests(web)
            if told[0] == "parting":
                self.assertIs(parting_shows(web, told[1]), True)
            self.assertIs(parting_shows(web, pieces(web)), False)
            self.assertIs(parting_shows(web, whole_parts(web)), bool(bridges(web)))


if __name__ == "__main__":
    unittest.main()
