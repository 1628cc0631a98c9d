"""0.4, 0.5, 4.1 to 4.3, and 0.7 and 0.8 as far as they speak of rests."""

import random
import unittest

from busyweb.errors import BadFlow, BadRest, NoFlow
from busyweb.rests import (filled, filled_whole, how_many_rests, is_rest_flow, rest_number, rests_numbered,
                           rests_of)
from busyweb.rings import free_ties
from busyweb.webs import Web
from samples import (HUGE, LONE, MIXED, ROW, TRIANGLE, VAST, large_webs, refusal, rest_lists, sample_webs,
                     slow_is_flow, slow_is_rest_flow, small_webs, tie_of_refusal)

MOST = 10 ** 20
GOOD = (2, 3, MOST)
WRONG = (1, 0, -1, -2, MOST + 1, -MOST, HUGE, VAST, -VAST)
THREE = Web(2, [(0, 1), (0, 1), (1, 0)])


def drawn_values(chance, web, top):
    return [chance.randint(-top, top) for tie in free_ties(web)]


def wrong_lengths(size):
    return [length for length in (0, size - 1, size + 1, 45) if length >= 0 and length != size]


class Rests(unittest.TestCase):
    def test_rests_of(self):
        self.assertEqual(rests_of([0, 1, 2, 3, -1, -2, -3], 2), [0, 1, 0, 1, 1, 0, 1])
        self.assertEqual(rests_of((0, 1, 2, 3, -1, -2, -3), 3), [0, 1, 2, 0, 2, 1, 0])
        self.assertEqual(rests_of([MOST, MOST - 1, -1, MOST + 4, -MOST], MOST), [0, MOST - 1, MOST - 1, 4, 0])
        self.assertEqual(rests_of([], 2), [])
        self.assertEqual(rests_of((), MOST), [])
        self.assertEqual(rests_of([HUGE, -HUGE], MOST), [MOST - 1, 1])
        self.assertEqual(rests_of([HUGE, -HUGE], 2), [1, 1])
        self.assertEqual(rests_of([HUGE, -HUGE], 3), [0, 0])

    def test_rests_are_from_nought_on_and_differ_by_multiples(self):
        chance = random.Random(41)
        for top in (9, HUGE):
            for k in GOOD:
                amounts = [chance.randint(-top, top) for each in range(40)]
                told = rests_of(amounts, k)
                self.assertIsInstance(told, list)
                for amount, rest in zip(amounts, told):
                    self.assertTrue(0 <= rest < k)
                    self.assertEqual((amount - rest) % k, 0)

    def test_is_rest_flow(self):
        self.assertIs(is_rest_flow(TRIANGLE, [1, 1, 1], 2), True)
        self.assertIs(is_rest_flow(TRIANGLE, (2, 2, 2), 3), True)
        self.assertIs(is_rest_flow(TRIANGLE, [1, 1, 0], 2), False)
        self.assertIs(is_rest_flow(THREE, [1, 1, 0], 2), True)
        self.assertIs(is_rest_flow(THREE, [1, 1, 2], 3), True)
        self.assertIs(is_rest_flow(THREE, [1, 1, 1], 3), False)
        self.assertIs(is_rest_flow(THREE, [MOST - 1, 1, 0], MOST), True)
        self.assertIs(is_rest_flow(THREE, [MOST - 1, 2, 1], MOST), True)
        self.assertIs(is_rest_flow(THREE, [MOST - 1, 2, 0], MOST), False)
        self.assertIs(is_rest_flow(LONE, [], 2), True)
        self.assertIs(is_rest_flow(LONE, (), MOST), True)

    def test_rests_below_nought_and_of_k_and_above(self):
        for k in GOOD:
            for rests in ([k, k, k], [-1, -1, -1], [k + 1] * 3, [-k] * 3, [HUGE] * 3, [-HUGE] * 3):
                self.assertTrue(slow_is_flow(TRIANGLE, rests))
                self.assertIs(is_rest_flow(TRIANGLE, rests, k), False)
                self.assertIs(is_rest_flow(TRIANGLE, tuple(rests), k), False)
            self.assertIs(is_rest_flow(Web(1, [(0, 0), (0, 0)]), [0, k], k), False)
            self.assertIs(is_rest_flow(Web(1, [(0, 0), (0, 0)]), [-1, 0], k), False)
            self.assertIs(is_rest_flow(Web(1, [(0, 0), (0, 0)]), [0, k - 1], k), True)

    def test_a_loop_has_any_rest(self):
        web = Web(2, [(1, 1), (0, 1)])
        for rest in range(3):
            self.assertIs(is_rest_flow(web, [rest, 0], 3), True)
            self.assertIs(is_rest_flow(web, [rest, 1], 3), False)

    def test_is_rest_flow_by_trial(self):
        for web in small_webs():
            for k in (2, 3):
                for rests in rest_lists(web, k):
                    self.assertIs(is_rest_flow(web, rests, k), slow_is_rest_flow(web, rests, k))

    def test_the_rests_of_a_flow_are_a_rest_flow(self):
        chance = random.Random(42)
        for web in sample_webs():
            flow = filled_whole(web, drawn_values(chance, web, HUGE))
            for k in GOOD:
                self.assertIs(is_rest_flow(web, rests_of(flow, k), k), True)


class Filled(unittest.TestCase):
    def test_filled_whole(self):
        self.assertEqual(filled_whole(TRIANGLE, [5]), [5, 5, 5])
        self.assertEqual(filled_whole(TRIANGLE, [-HUGE]), [-HUGE] * 3)
        self.assertEqual(filled_whole(THREE, [4, 9]), [5, 4, 9])
        self.assertEqual(filled_whole(Web(2, [(0, 0), (1, 0), (1, 1)]), [7, -8]), [7, 0, -8])

    def test_filled(self):
        self.assertEqual(filled(TRIANGLE, [5], 3), [2, 2, 2])
        self.assertEqual(filled(THREE, [4, 9], 3), [2, 1, 0])
        self.assertEqual(filled(THREE, [1, 0], 10), [9, 1, 0])
        self.assertEqual(filled(THREE, [1, 0], MOST), [MOST - 1, 1, 0])
        self.assertEqual(filled(THREE, [-HUGE, 0], MOST), [MOST - 1, 1, 0])

    def test_over_many_webs(self):
        chance = random.Random(43)
        for web in sample_webs() + small_webs():
            free = free_ties(web)
            for top in (0, 2, 10 ** 25, HUGE):
                values = drawn_values(chance, web, top)
                flow = filled_whole(web, values)
                self.assertIsInstance(flow, list)
                self.assertEqual(len(flow), len(web.ties))
                self.assertTrue(slow_is_flow(web, flow))
                self.assertEqual([flow[tie] for tie in free], values)
                for k in GOOD:
                    rests = filled(web, values, k)
                    self.assertIsInstance(rests, list)
                    self.assertTrue(slow_is_rest_flow(web, rests, k))
                    self.assertEqual([rests[tie] for tie in free], [value % k for value in values])
                    moved = [value + k * chance.randint(-HUGE, HUGE) for value in values]
                    self.assertEqual(filled(web, moved, k), rests)

    def test_just_one_flow_with_these_amounts(self):
        for web in [web for web in small_webs() if len(web.ties) == 3]:
            free = free_ties(web)
            for flow in rest_lists(web, 3):
                if slow_is_flow(web, flow):
                    self.assertEqual(filled_whole(web, [flow[tie] for tie in free]), flow)
                if slow_is_rest_flow(web, flow, 3):
                    self.assertEqual(filled(web, [flow[tie] for tie in free], 3), flow)

    def test_webs_without_free_ties(self):
        for web in (LONE, ROW, Web(20, [])):
            nought = [0] * len(web.ties)
            self.assertEqual(filled_whole(web, []), nought)
            for k in GOOD:
                self.assertEqual(filled(web, [], k), nought)
                self.assertEqual(how_many_rests(web, k), 1)
                self.assertEqual(rests_numbered(web, 0, k), nought)
                self.assertEqual(rest_number(web, nought, k), 0)
                self.assertIs(refusal(rests_numbered, web, 1, k), NoFlow)
                self.assertIs(refusal(rests_numbered, web, -1, k), NoFlow)


class Numbered(unittest.TestCase):
    def test_how_many_rests(self):
        self.assertEqual([how_many_rests(TRIANGLE, k) for k in GOOD], [2, 3, MOST])
        self.assertEqual([how_many_rests(MIXED, k) for k in GOOD], [16, 81, 10 ** 80])
        self.assertEqual(how_many_rests(Web(1, [(0, 0)] * 40), MOST), 10 ** 800)

    def test_how_many_by_trial(self):
        for web in small_webs():
            for k in (2, 3, 4):
                found = [rests for rests in rest_lists(web, k) if slow_is_rest_flow(web, rests, k)]
                self.assertEqual(how_many_rests(web, k), len(found))

    def test_rest_number(self):
        self.assertEqual(rest_number(THREE, [2, 1, 0], 3), 1)
        self.assertEqual(rest_number(THREE, (1, 0, 1), 3), 3)
        self.assertEqual(rest_number(THREE, [0, 2, 2], 3), 8)
        self.assertEqual(rests_numbered(THREE, 1, 3), [2, 1, 0])
        self.assertEqual(rests_numbered(THREE, 3, 3), [1, 0, 1])
        self.assertEqual(rests_numbered(THREE, 8, 3), [0, 2, 2])

    def test_first_free_tie_counts_once(self):
        web = Web(1, [(0, 0)] * 4)
        self.assertEqual(rest_number(web, [1, 2, 3, 4], 10), 4321)
        self.assertEqual(rests_numbered(web, 4321, 10), [1, 2, 3, 4])
        self.assertEqual(rest_number(web, [5, 0, 0, MOST - 1], MOST), 5 + (MOST - 1) * 10 ** 60)
        self.assertEqual(rests_numbered(web, 5 + (MOST - 1) * 10 ** 60, MOST), [5, 0, 0, MOST - 1])

    def test_each_has_one_number_by_trial(self):
        for web in small_webs() + [MIXED]:
            for k in (2, 3):
                many = how_many_rests(web, k)
                told = [rests_numbered(web, number, k) for number in range(many)]
                self.assertEqual([rest_number(web, rests, k) for rests in told], list(range(many)))
                for rests in told:
                    self.assertIsInstance(rests, list)
                    self.assertTrue(slow_is_rest_flow(web, rests, k))
                found = [rests for rests in rest_lists(web, k) if slow_is_rest_flow(web, rests, k)]
                self.assertEqual(sorted(told), found)

    def test_the_last_number_and_the_one_behind_it(self):
        for web in [TRIANGLE, MIXED, THREE] + large_webs():
            for k in GOOD:
                many = how_many_rests(web, k)
                self.assertEqual(many, k ** len(free_ties(web)))
                last = rests_numbered(web, many - 1, k)
                self.assertEqual([last[tie] for tie in free_ties(web)], [k - 1] * len(free_ties(web)))
                self.assertEqual(rest_number(web, last, k), many - 1)
                for number in (many, many + 1, -1, -many, many * k):
                    self.assertEqual(tie_of_refusal(rests_numbered, web, number, k), [None])

    def test_told_again_by_its_number(self):
        chance = random.Random(44)
        for web in sample_webs():
            for k in GOOD:
                number = chance.randrange(how_many_rests(web, k))
                rests = rests_numbered(web, number, k)
                self.assertTrue(slow_is_rest_flow(web, rests, k))
                self.assertEqual(rest_number(web, rests, k), number)
                self.assertEqual(rest_number(web, tuple(rests), k), number)


class Refused(unittest.TestCase):
    def test_bad_rest_ahead_of_all_else(self):
        for k in WRONG:
            self.assertIs(refusal(rests_of, [1, 2], k), BadRest)
            self.assertIs(refusal(rests_of, [], k), BadRest)
            for web in (TRIANGLE, MIXED, LONE, ROW):
                size = len(web.ties)
                for length in [size] + wrong_lengths(size):
                    for rest in (0, 1, -1, HUGE):
                        self.assertIs(refusal(is_rest_flow, web, [rest] * length, k), BadRest)
                        self.assertIs(refusal(rest_number, web, [rest] * length, k), BadRest)
                        self.assertIs(refusal(filled, web, [rest] * length, k), BadRest)
                self.assertIs(refusal(filled, web, [0] * len(free_ties(web)), k), BadRest)
                self.assertIs(refusal(how_many_rests, web, k), BadRest)
                for number in (0, 1, -1, HUGE):
                    self.assertIs(refusal(rests_numbered, web, number, k), BadRest)

    def test_least_and_most(self):
        for k in (2, MOST):
            self.assertIsNone(refusal(rests_of, [1], k))
            self.assertIsNone(refusal(is_rest_flow, TRIANGLE, [1, 1, 1], k))
            self.assertIsNone(refusal(filled, TRIANGLE, [1], k))
            self.assertIsNone(refusal(how_many_rests, TRIANGLE, k))
            self.assertIsNone(refusal(rest_number, TRIANGLE, [1, 1, 1], k))
            self.assertIsNone(refusal(rests_numbered, TRIANGLE, 1, k))

    def test_one_number_short_or_long(self):
        for web in (TRIANGLE, MIXED, LONE, ROW, large_webs()[0]):
            for k in GOOD:
                for length in wrong_lengths(len(web.ties)):
                    # No rest flow either, where it is -1 or k: the length goes first.
                    for rest in (0, -1, k):
                        self.assertIs(refusal(is_rest_flow, web, [rest] * length, k), BadFlow)
                        self.assertIs(refusal(is_rest_flow, web, (rest,) * length, k), BadFlow)
                        self.assertIs(refusal(rest_number, web, [rest] * length, k), BadFlow)
                for length in wrong_lengths(len(free_ties(web))):
                    self.assertIs(refusal(filled, web, [0] * length, k), BadFlow)
                    self.assertIs(refusal(filled_whole, web, [0] * length), BadFlow)

    def test_no_rest_flow(self):
        for k in GOOD:
            for rests in ([0, 0, 1], [1, 1, 0], [k, k, k], [-1, -1, -1], [HUGE, 0, 0]):
                self.assertEqual(tie_of_refusal(rest_number, TRIANGLE, rests, k), [None])
                self.assertIs(refusal(rest_number, TRIANGLE, rests, k), NoFlow)


class Own(unittest.TestCase):
    def test_a_told_list_that_is_changed_is_told_whole_again(self):
        asked = ((lambda: rests_of((1, 2), 2)), (lambda: filled(THREE, [4, 9], 3)),
                 (lambda: filled_whole(THREE, [4, 9])), (lambda: rests_numbered(THREE, 8, 3)),
                 (lambda: filled_whole(ROW, [])))
        for ask in asked:
            told = ask()
            again = ask()
            told.append(7)
            told[0] = 99
            self.assertEqual(ask(), again)

    def test_what_is_handed_in_stays_as_it_was(self):
        amounts = [5, 0, 5]
        values = [4, 9]
        rests = [2, 1, 0]
        for told in (rests_of(amounts, 7), filled(THREE, values, 100), filled_whole(THREE, values),
                     rests_numbered(THREE, rest_number(THREE, rests, 3), 3)):
            told[0] = 99
            told.clear()
        is_rest_flow(THREE, rests, 3)
        self.assertEqual((amounts, values, rests), ([5, 0, 5], [4, 9], [2, 1, 0]))
        self.assertEqual(THREE.ties, ((0, 1), (0, 1), (1, 0)))


if __name__ == "__main__":
    unittest.main()
