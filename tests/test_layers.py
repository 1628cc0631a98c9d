"""7.3, busy flows from even sets and from two forests, and 0.7 and 0.8 as far as they speak of these."""

import random
import unittest

from busyweb.errors import BadSet
from busyweb.evens import completed, even_flow
from busyweb.layers import from_forests, layered
from busyweb.rings import forest, free_ties, ring_of, ring_through
from busyweb.webs import Web
from samples import (FOUR, LONE, MIXED, ROW, TRIANGLE, drawn_forest, drawn_web, large_webs, refusal, slow_bridges,
                     slow_is_flow, small_webs, spanning_forests, subsets, ties_carried, wrong_sets)

# Three ties between each two of three places, and a loop.
THICK = Web(3, [(0, 1), (1, 2), (2, 0), (1, 0), (2, 1), (0, 2), (2, 2), (0, 1), (1, 2), (2, 0)])
# Each place tied twice to the next one: 20 places and 40 ties.
DOUBLE = Web(20, [(place, (place + 1) % 20) for place in range(20) for each in range(2)])


def covering_sets(chance, web, most):
    """At most so many even sets that hold all ties together, made of rings; None where that wasn't found."""
    for each in range(200):
        sets = []
        for number in range(chance.randint(1, most)):
            some = set()
            for tie in free_ties(web):
                if chance.random() < 0.6:
                    some ^= set(ties_carried(ring_of(web, tie)))
            sets.append(sorted(some))
        if set().union(*sets) == set(range(len(web.ties))):
            return sets
    return None


def sum_told(web, sets):
    told = [0] * len(web.ties)
    for number, some in enumerate(sets):
        for tie, amount in enumerate(even_flow(web, some)):
            told[tie] += 2 ** number * amount
    return told


class Layered(unittest.TestCase):
    def check(self, web, sets):
        told = layered(web, sets)
        self.assertIsInstance(told, list)
        self.assertEqual(told, sum_told(web, sets))
        self.assertTrue(slow_is_flow(web, told))
        self.assertNotIn(0, told)
        self.assertTrue(all(abs(amount) < 2 ** len(sets) for amount in told))

    def test_one_set(self):
        self.assertIn(layered(TRIANGLE, [[0, 1, 2]]), ([1, 1, 1], [-1, -1, -1]))
        self.assertEqual(layered(LONE, [[]]), [])
        self.check(Web(2, [(0, 1)] * 40), [list(range(40))])

    def test_which_counts_twice(self):
        web = Web(2, [(0, 0), (1, 1), (1, 1)])
        told = layered(web, [[0, 2], [1, 2]])
        self.assertEqual([abs(amount) for amount in told][:2], [1, 2])
        self.assertIn(abs(told[2]), (1, 3))
        self.check(web, [[0, 2], [1, 2]])

    def test_one_to_ten_sets(self):
        for many in range(1, 11):
            self.check(TRIANGLE, [[]] * (many - 1) + [[0, 1, 2]])
            self.check(TRIANGLE, [[0, 1, 2]] + [[]] * (many - 1))
            self.check(TRIANGLE, [[0, 1, 2]] * many)
            self.check(LONE, [[]] * many)

    def test_single_loops(self):
        for many in range(1, 11):
            web = Web(2, [(tie % 2, tie % 2) for tie in range(many)])
            told = layered(web, [[tie] for tie in range(many)])
            self.assertEqual([abs(amount) for amount in told], [2 ** tie for tie in range(many)])

    def test_empty_sets_and_sets_twice(self):
        self.check(THICK, [[], [0, 1, 2], [], [0, 1, 2], [3, 4, 5, 6], [], [6, 7, 8, 9], [3, 4, 5, 6]])
        some = [0, 1, 2, 3, 4, 5]
        self.check(THICK, [some, [6, 7, 8, 9], some])

    def test_drawn_sets(self):
        chance = random.Random(79)
        webs = [drawn_web(chance, chance.randint(1, 5), chance.randint(0, 10)) for each in range(60)] + large_webs()
        webs = [web for web in webs + [THICK, FOUR, DOUBLE] if not slow_bridges(web)]
        found = [(web, covering_sets(chance, web, 10)) for web in webs]
        self.assertGreater(len([web for web, sets in found if sets is not None]), 20)
        self.assertTrue([web for web, sets in found if sets is not None and len(web.ties) == 40])
        for web, sets in found:
            if sets is not None:
                self.check(web, sets)
                self.check(web, sets[::-1])
                self.check(web, (sets + [[]] + sets)[:10] if len(sets) < 10 else sets)

    def test_all_pairs_of_sets_of_small_webs(self):
        for web in small_webs()[::5] + [FOUR]:
            evens = [some for some in subsets(web) if refusal(even_flow, web, some) is None]
            for one in evens:
                for two in evens:
                    if len(set(one) | set(two)) == len(web.ties):
                        self.check(web, [one, two])
                    else:
                        self.assertIs(refusal(layered, web, [one, two]), BadSet)

    def test_a_tie_in_none(self):
        for sets in ([[]], [[], []], [[0, 1, 2]], [[0, 1, 2], [3, 4, 5]], [[0, 1, 2]] * 10,
                     [[0, 1, 2, 3, 4, 5], [7, 8, 9]]):
            self.assertIs(refusal(layered, THICK, sets), BadSet)
        self.assertIs(refusal(layered, ROW, [[]]), BadSet)
        for web in large_webs():
            self.assertIs(refusal(layered, web, [[]] * 10), BadSet)
            if not slow_bridges(web):
                rings = [ties_carried(ring_through(web, tie)) for tie in (0, 20)]
                self.assertIs(refusal(layered, web, rings), BadSet)

    def test_a_set_that_even_flow_refuses(self):
        good = [0, 1, 2]
        for bad in wrong_sets(TRIANGLE) + [[0], [1, 2], [2]]:
            for sets in ([bad], [good, bad], [bad, good], [good, bad, good], [good] * 9 + [bad], [bad] * 10):
                self.assertIs(refusal(layered, TRIANGLE, sets), BadSet)
        self.assertIs(refusal(layered, THICK, [list(range(6)), [6, 7, 8]]), BadSet)
        self.assertIs(refusal(layered, THICK, [[5, 4, 3, 2, 1, 0], [6, 7, 8, 9]]), BadSet)
        self.assertIs(refusal(layered, LONE, [[], [0]]), BadSet)


class FromForests(unittest.TestCase):
    def check(self, web, one, two):
        told = from_forests(web, one, two)
        self.assertIsInstance(told, list)
        self.assertEqual(len(told), len(web.ties))
        self.assertTrue(slow_is_flow(web, told))
        self.assertTrue(all(0 < abs(amount) < 4 for amount in told))

    def test_from_forests(self):
        self.check(FOUR, [0, 1, 5], [2, 3, 4])
        self.check(THICK, [0, 1], [2, 3])
        self.check(LONE, [], [])
        self.check(Web(3, [(0, 0), (2, 2)]), [], [])
        self.check(Web(2, [(0, 1), (1, 0)]), [0], [1])
        self.check(Web(4, [(0, 1), (1, 0), (2, 3), (3, 2)]), [0, 3], [1, 2])

    def test_all_pairs_of_forests(self):
        chance = random.Random(80)
        webs = [drawn_web(chance, chance.randint(1, 4), chance.randint(0, 8)) for each in range(30)]
        for web in small_webs()[::5] + webs + [FOUR, TRIANGLE]:
            forests = spanning_forests(web)
            for one in forests:
                for two in forests:
                    if set(one) & set(two):
                        self.assertIs(refusal(from_forests, web, one, two), BadSet)
                    else:
                        self.check(web, one, two)

    def test_large_webs(self):
        self.check(DOUBLE, list(range(0, 38, 2)), list(range(1, 38, 2)))
        self.check(DOUBLE, list(range(0, 38, 2)), list(range(3, 40, 2)))
        many = Web(2, [(0, 1)] * 40)
        self.check(many, [0], [39])
        self.check(many, [39], [0])

    def test_a_common_tie(self):
        self.assertIs(refusal(from_forests, FOUR, [0, 1, 5], [0, 1, 5]), BadSet)
        self.assertIs(refusal(from_forests, FOUR, [0, 1, 5], [2, 3, 5]), BadSet)
        self.assertIs(refusal(from_forests, ROW, [0, 1, 2], [0, 1, 2]), BadSet)
        # All ties are held by the two even sets, and yet there is a common tie.
        ring = Web(2, [(0, 1), (1, 0)])
        self.assertEqual(completed(ring, [0]), [0, 1])
        self.assertIs(refusal(from_forests, ring, [0], [0]), BadSet)
        self.assertIs(refusal(from_forests, TRIANGLE, [0, 1], [1, 2]), BadSet)

    def test_where_one_is_none(self):
        good = [0, 1, 5]
        for bad in wrong_sets(FOUR) + [[], [2], [2, 3], [2, 3, 4, 5], [1, 2, 5], [4, 3, 2], [2, 3, 4, 4]]:
            self.assertIs(refusal(from_forests, FOUR, good, bad), BadSet)
            self.assertIs(refusal(from_forests, FOUR, bad, good), BadSet)
            self.assertIs(refusal(from_forests, FOUR, bad, bad), BadSet)
        # Even sets that hold all ties come of these as well, but they are no forests.
        self.assertIs(refusal(from_forests, Web(1, [(0, 0)]), [], [0]), BadSet)
        self.assertIs(refusal(from_forests, Web(1, [(0, 0)]), [0], []), BadSet)

    def test_forests_of_large_webs(self):
        chance = random.Random(81)
        for web in large_webs() + [MIXED]:
            one = drawn_forest(chance, web)
            two = drawn_forest(chance, web)
            if set(one) & set(two):
                self.assertIs(refusal(from_forests, web, one, two), BadSet)
            else:
                self.check(web, one, two)


class Own(unittest.TestCase):
    def test_changed(self):
        for ask, given in ((layered, ([[0, 1, 2], [3, 4, 5, 6], [7, 8, 9]],)), (from_forests, ([0, 1], [2, 3]))):
            told = ask(THICK, *given)
            again = list(told)
            self.assertIsNot(ask(THICK, *given), told)
            told.append(9)
            told[0] = 40
            self.assertEqual(ask(THICK, *given), again)

    def test_what_is_handed_in_stays(self):
        sets = [[0, 1, 2], [], [3, 4, 5, 6], [7, 8, 9]]
        inner = list(sets)
        told = layered(THICK, sets)
        self.assertEqual(sets, [[0, 1, 2], [], [3, 4, 5, 6], [7, 8, 9]])
        self.assertTrue(all(one is two for one, two in zip(sets, inner)))
        sets[0].append(9)
        sets.pop()
        self.assertEqual(layered(THICK, [[0, 1, 2], [], [3, 4, 5, 6], [7, 8, 9]]), told)
        one = [0, 1]
        two = [2, 3]
        from_forests(THICK, one, two)
        self.assertEqual((one, two), ([0, 1], [2, 3]))
        self.assertEqual(len(THICK.ties), 10)

    def test_one_list_handed_in_twice(self):
        some = [0, 1, 2]
        self.assertEqual(layered(TRIANGLE, [some, some]), layered(TRIANGLE, [[0, 1, 2], [0, 1, 2]]))
        self.assertEqual(some, [0, 1, 2])
        nothing = []
        self.assertEqual(from_forests(LONE, nothing, nothing), [])

    def test_what_was_told_may_be_handed_in(self):
        taken = forest(DOUBLE)
        flow = from_forests(DOUBLE, taken, [tie + 1 for tie in taken])
        self.assertTrue(slow_is_flow(DOUBLE, flow))
        self.assertNotIn(0, flow)
        some = completed(THICK, forest(THICK))
        self.assertEqual(len(layered(THICK, [some, ties_carried(ring_through(THICK, 0)), [0, 1, 2]])), 10)


if __name__ == "__main__":
    unittest.main()
