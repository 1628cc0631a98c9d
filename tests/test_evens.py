"""7.1, 7.2 and 3.3, even sets and those that complete a forest, and 0.7 and 0.8 as far as they speak of these."""

import random
import unittest

from busyweb.errors import BadSet
from busyweb.evens import completed, even_flow, is_even
from busyweb.rings import forest, free_ties, ring_of
from busyweb.webs import Web
from samples import (LONE, MIXED, ROW, TRIANGLE, drawn_forest, drawn_web, large_webs, refusal, slow_bridges,
                     slow_is_even, slow_is_flow, slow_is_spanning, small_webs, subsets, ties_carried,
                     wrong_sets)

# Two rings with a tie in common, a loop, and a double tie.
JOINED = Web(5, [(0, 1), (1, 2), (2, 3), (3, 0), (2, 0), (4, 4), (3, 4), (4, 3)])


def of_just_one(one, two):
    return sorted(set(one) ^ set(two))


def ring_sets(web):
    return [ties_carried(ring_of(web, tie)) for tie in free_ties(web)]


def drawn_webs(seed):
    chance = random.Random(seed)
    return [drawn_web(chance, chance.randint(1, 6), chance.randint(0, 7)) for each in range(50)]


def drawn_even_sets(chance, web):
    """What comes of some rings, one behind the other."""
    told = [[]]
    for ring in ring_sets(web):
        if chance.random() < 0.6:
            told.append(of_just_one(told[-1], ring))
    return told


class Even(unittest.TestCase):
    def test_even_sets(self):
        for some in ([], [0, 1, 4], [2, 3, 4], [0, 1, 2, 3], [5], [6, 7], [0, 1, 4, 5, 6, 7]):
            self.assertIs(is_even(JOINED, some), True)
        self.assertIs(is_even(TRIANGLE, [0, 1, 2]), True)
        self.assertIs(is_even(LONE, []), True)

    def test_sets_that_are_not_even(self):
        for some in ([0], [0, 1], [0, 1, 2, 3, 4], [4], [6], [5, 6], [0, 1, 4, 6], [0, 1, 2, 3, 4, 5, 6, 7]):
            self.assertIs(is_even(JOINED, some), False)
        for some in ([0], [2], [0, 2], [1, 2]):
            self.assertIs(is_even(TRIANGLE, some), False)

    def test_single_loops_and_all_ties(self):
        loops = Web(3, [(0, 0), (1, 1), (1, 1), (2, 2)])
        for some in subsets(loops):
            self.assertIs(is_even(loops, some), True)
        for web in large_webs():
            every = list(range(len(web.ties)))
            self.assertEqual(is_even(web, every), slow_is_even(web, every))
            for tie, (start, end) in enumerate(web.ties):
                self.assertIs(is_even(web, [tie]), start == end)

    def test_every_set_of_small_webs(self):
        for web in small_webs() + drawn_webs(71) + [MIXED, ROW, JOINED]:
            for some in subsets(web):
                self.assertIs(is_even(web, some), slow_is_even(web, some))

    def test_rings_and_what_just_one_has(self):
        for web in large_webs() + drawn_webs(72):
            rings = ring_sets(web)
            for one in rings:
                self.assertIs(is_even(web, one), True)
                for two in rings[:5]:
                    self.assertIs(is_even(web, of_just_one(one, two)), True)

    def test_a_tie_more_or_less(self):
        chance = random.Random(73)
        for web in large_webs():
            for some in drawn_even_sets(chance, web):
                for tie, (start, end) in enumerate(web.ties):
                    self.assertIs(is_even(web, of_just_one(some, [tie])), start == end)


class EvenFlow(unittest.TestCase):
    def check(self, web, some):
        told = even_flow(web, some)
        self.assertIsInstance(told, list)
        self.assertEqual(len(told), len(web.ties))
        self.assertTrue(slow_is_flow(web, told))
        for tie, amount in enumerate(told):
            self.assertIn(amount, (1, -1) if tie in some else (0,))

    def test_even_flow(self):
        self.assertEqual(even_flow(LONE, []), [])
        self.assertEqual(even_flow(TRIANGLE, []), [0, 0, 0])
        self.assertIn(even_flow(TRIANGLE, [0, 1, 2]), ([1, 1, 1], [-1, -1, -1]))
        self.assertIn(even_flow(JOINED, [0, 1, 4]), ([1, 1, 0, 0, 1, 0, 0, 0], [-1, -1, 0, 0, -1, 0, 0, 0]))

    def test_every_set_of_small_webs(self):
        for web in small_webs() + drawn_webs(74) + [MIXED, ROW, JOINED]:
            for some in subsets(web):
                if slow_is_even(web, some):
                    self.check(web, some)
                else:
                    self.assertIs(refusal(even_flow, web, some), BadSet)

    def test_large_webs(self):
        chance = random.Random(75)
        for web in large_webs():
            for some in drawn_even_sets(chance, web)[::3] + [[]]:
                self.check(web, some)
            every = list(range(len(web.ties)))
            if slow_is_even(web, every):
                self.check(web, every)
            else:
                self.assertIs(refusal(even_flow, web, every), BadSet)

    def test_all_ties_of_a_large_web(self):
        ties = [(place, (place + step) % 20) for step in (1, 7) for place in range(20)]
        self.check(Web(20, ties), list(range(40)))
        self.check(Web(2, [(0, 1)] * 40), list(range(40)))
        self.check(Web(1, [(0, 0)] * 40), list(range(40)))


class Completed(unittest.TestCase):
    def check(self, web, some):
        told = completed(web, some)
        self.assertIsInstance(told, list)
        self.assertEqual(told, sorted(set(told)))
        self.assertTrue(slow_is_even(web, told))
        outside = set(range(len(web.ties))) - set(some)
        self.assertLessEqual(outside, set(told))
        return told

    def test_completed(self):
        self.assertEqual(completed(LONE, []), [])
        self.assertEqual(completed(TRIANGLE, [0, 1]), [0, 1, 2])
        self.assertEqual(completed(ROW, [0, 1, 2]), [])
        self.assertEqual(completed(JOINED, [0, 1, 2, 6]), [2, 3, 4, 5, 6, 7])
        self.assertEqual(completed(JOINED, [1, 3, 4, 7]), [0, 1, 2, 3, 5, 6, 7])
        self.assertEqual(completed(Web(2, [(0, 0), (1, 1), (1, 1)]), []), [0, 1, 2])

    def test_every_set_of_small_webs(self):
        for web in small_webs() + drawn_webs(76) + [MIXED, ROW, JOINED]:
            sets = subsets(web)
            evens = [some for some in sets if slow_is_even(web, some)]
            for some in sets:
                if slow_is_spanning(web, some):
                    outside = set(range(len(web.ties))) - set(some)
                    self.assertEqual([completed(web, some)], [one for one in evens if outside <= set(one)])
                else:
                    self.assertIs(refusal(completed, web, some), BadSet)

    def test_large_webs(self):
        chance = random.Random(77)
        for web in large_webs():
            self.check(web, forest(web))
            for each in range(4):
                self.check(web, drawn_forest(chance, web))

    def test_several_pieces(self):
        chance = random.Random(78)
        parted = [[(chance.randrange(low, low + 5), chance.randrange(low, low + 5)) for low in (0, 5, 10, 15)]
                  for each in range(10)]
        web = Web(20, [pair for pairs in parted for pair in pairs])
        for each in range(5):
            self.check(web, drawn_forest(chance, web))
        self.check(MIXED, [0, 1, 3, 4])

    def test_a_ring(self):
        for some in ([0, 1, 2], [0, 1, 2, 3], [0, 1, 4], [5], [0, 1, 2, 6, 7], [0, 1, 2, 5], [2, 3, 4, 6],
                     [0, 1, 2, 5, 6]):
            self.assertIs(refusal(completed, JOINED, some), BadSet)
        self.assertIs(refusal(completed, LONE, [0]), BadSet)
        self.assertIs(refusal(completed, Web(1, [(0, 0)]), [0]), BadSet)
        for web in large_webs():
            for tie in free_ties(web)[:6]:
                self.assertIs(refusal(completed, web, sorted(forest(web) + [tie])), BadSet)

    def test_a_piece_not_held_together(self):
        for some in ([], [0], [0, 1, 2], [0, 1, 6], [1, 2, 3]):
            self.assertIs(refusal(completed, JOINED, some), BadSet)
        for web in large_webs():
            taken = forest(web)
            for tie in taken[:6]:
                self.assertIs(refusal(completed, web, [one for one in taken if one != tie]), BadSet)
        self.assertIs(refusal(completed, ROW, []), BadSet)

    def test_a_ring_in_the_place_of_a_tie(self):
        web = Web(4, [(0, 1), (1, 2), (2, 0), (2, 3)])
        self.assertIs(refusal(completed, web, [0, 1, 2]), BadSet)
        self.assertEqual(completed(web, [0, 1, 3]), [0, 1, 2])


class Refused(unittest.TestCase):
    def test_wrong_sets(self):
        for web in [LONE, TRIANGLE, MIXED, JOINED, ROW, Web(1, [(0, 0)] * 3), Web(20, [])] + large_webs():
            for some in wrong_sets(web):
                for ask in (is_even, even_flow, completed):
                    self.assertIs(refusal(ask, web, some), BadSet)

    def test_sets_that_would_do_in_another_order(self):
        for some in ([2, 1, 0], [0, 2, 1], [1, 0, 2], [0, 1, 2, 2, 2], [0, 0, 0, 1, 2]):
            self.assertIs(refusal(is_even, TRIANGLE, some), BadSet)
            self.assertIs(refusal(even_flow, TRIANGLE, some), BadSet)
        for some in ([1, 0], [0, 1, 1], [-3, 1], [0, -2]):
            self.assertIs(refusal(completed, TRIANGLE, some), BadSet)


class Own(unittest.TestCase):
    def test_changed(self):
        for ask, some in ((even_flow, [0, 1, 4, 5]), (even_flow, []), (completed, [0, 1, 2, 6])):
            told = ask(JOINED, some)
            again = list(told)
            self.assertIsNot(ask(JOINED, some), told)
            told.append(9)
            told[0] = 7
            self.assertEqual(ask(JOINED, some), again)

    def test_what_is_handed_in_stays(self):
        for ask, given in ((is_even, [0, 1, 4]), (even_flow, [0, 1, 4]), (completed, [0, 1, 2, 6])):
            some = list(given)
            told = ask(JOINED, some)
            self.assertEqual(some, given)
            self.assertIsNot(told, some)
            some.append(7)
            self.assertEqual(ask(JOINED, given), told)
        self.assertEqual(JOINED.ties, ((0, 1), (1, 2), (2, 3), (3, 0), (2, 0), (4, 4), (3, 4), (4, 3)))

    def test_what_was_told_may_be_handed_in(self):
        for web in large_webs():
            some = completed(web, forest(web))
            flow = even_flow(web, some)
            self.assertEqual(ties_carried(flow), some)
            self.assertFalse(set(some) & set(slow_bridges(web)))


if __name__ == "__main__":
    unittest.main()
