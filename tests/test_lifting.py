"""5.2, and 0.7 and 0.8 as far as they speak of it."""

import random
import unittest

from busyweb.errors import BadFlow, BadRest, NoFlow
from busyweb.flows import is_busy, within
from busyweb.lifting import lifted, lowered
from busyweb.rests import filled_whole, how_many_rests, rests_numbered, rests_of
from busyweb.rings import free_ties
from busyweb.webs import Web
from samples import (HUGE, LONE, MIXED, ROW, TRIANGLE, VAST, large_webs, refusal, rest_lists, sample_webs,
                     slow_is_flow, slow_is_rest_flow, small_webs, tie_of_refusal)

MOST = 10 ** 20
WRONG = (1, 0, -1, -2, MOST + 1, -MOST, HUGE, VAST, -VAST)
FULL = Web(4, [(0, 1), (2, 0), (0, 3), (1, 2), (3, 1), (2, 3)])
THREE = Web(2, [(0, 1), (0, 1), (1, 0)])


def drawn_rest_flow(chance, web, k):
    return rests_numbered(web, chance.randrange(how_many_rests(web, k)), k)


class Checked(unittest.TestCase):
    def check(self, web, told, rests, k):
        self.assertIsInstance(told, list)
        self.assertEqual(len(told), len(web.ties))
        self.assertTrue(slow_is_flow(web, told))
        self.assertTrue(within(told, k))
        for amount, rest in zip(told, rests):
            self.assertIn(amount, (rest, rest - k) if rest else (0,))
        self.assertEqual(rests_of(told, k), list(rests))
        self.assertEqual(is_busy(told), is_busy(rests))


class Lifted(Checked):
    def test_lifted(self):
        self.assertEqual(lifted(LONE, [], 2), [])
        self.assertEqual(lifted(ROW, [0, 0, 0], 2), [0, 0, 0])
        self.assertIn(lifted(TRIANGLE, [1, 1, 1], 3), ([1, 1, 1], [-2, -2, -2]))
        self.assertIn(lifted(Web(1, [(0, 0)]), [MOST - 1], MOST), ([MOST - 1], [-1]))
        self.assertIn(lifted(Web(2, [(0, 1), (0, 1)]), (1, 1), 2), ([1, -1], [-1, 1]))
        self.assertIn(lifted(THREE, [1, 1, 0], 2), ([1, -1, 0], [-1, 1, 0]))

    def test_every_rest_flow_of_small_webs(self):
        for web in small_webs() + [MIXED, FULL]:
            for k in (2, 3, 4):
                for number in range(how_many_rests(web, k)):
                    rests = rests_numbered(web, number, k)
                    self.check(web, lifted(web, rests, k), rests, k)
                    self.check(web, lifted(web, tuple(rests), k), rests, k)

    def test_a_busy_one_gives_a_busy_flow(self):
        busy = [rests for rests in rest_lists(FULL, 4) if 0 not in rests and slow_is_rest_flow(FULL, rests, 4)]
        self.assertEqual(len(busy), 6)
        for rests in busy:
            self.assertNotIn(0, lifted(FULL, rests, 4))

    def test_large_webs(self):
        chance = random.Random(52)
        for web in sample_webs() + large_webs() * 3:
            for k in (2, 3, 4, 10 ** 9 + 7, MOST):
                rests = drawn_rest_flow(chance, web, k)
                self.check(web, lifted(web, rests, k), rests, k)


class Lowered(Checked):
    def test_lowered(self):
        self.assertEqual(lowered(LONE, [], 2), [])
        self.assertEqual(lowered(ROW, [0, 0, 0], 3), [0, 0, 0])
        self.assertEqual(lowered(TRIANGLE, [6, 6, 6], 3), [0, 0, 0])
        self.assertEqual(lowered(TRIANGLE, (-6, -6, -6), 2), [0, 0, 0])
        self.assertIn(lowered(TRIANGLE, [7, 7, 7], 3), ([1, 1, 1], [-2, -2, -2]))
        self.assertIn(lowered(TRIANGLE, [-7, -7, -7], 3), ([2, 2, 2], [-1, -1, -1]))

    def test_amounts_of_40_figures(self):
        chance = random.Random(53)
        for web in sample_webs() + large_webs() * 2:
            flow = filled_whole(web, [chance.randint(-HUGE, HUGE) // 50 for tie in free_ties(web)])
            for k in (2, 3, 7, MOST):
                self.check(web, lowered(web, flow, k), [amount % k for amount in flow], k)
                self.check(web, lowered(web, tuple(flow), k), [amount % k for amount in flow], k)
        for k in (2, 3, 4, MOST):
            for amount in (HUGE, -HUGE):
                self.check(TRIANGLE, lowered(TRIANGLE, [amount] * 3, k), [amount % k] * 3, k)

    def test_a_lifted_flow_can_be_lowered(self):
        chance = random.Random(54)
        for web in sample_webs():
            for k in (2, 5, MOST):
                rests = drawn_rest_flow(chance, web, k)
                self.check(web, lowered(web, lifted(web, rests, k), k), rests, k)


class Refused(unittest.TestCase):
    def test_bad_rest_goes_first(self):
        for k in WRONG:
            for amounts in ([1, 1, 1], [0, 0, 0], [1, 0, 0], [-1, -1, -1], [1, 1], [1, 1, 1, 1], []):
                self.assertIs(refusal(lifted, TRIANGLE, amounts, k), BadRest)
                self.assertIs(refusal(lowered, TRIANGLE, amounts, k), BadRest)

    def test_then_bad_flow(self):
        for web in (TRIANGLE, MIXED, LONE, ROW, large_webs()[0]):
            size = len(web.ties)
            for length in (0, size - 1, size + 1, 45):
                if length < 0 or length == size:
                    continue
                for k in (2, 3, MOST):
                    for amount in (0, 1, -1, k, HUGE):
                        self.assertIs(refusal(lifted, web, [amount] * length, k), BadFlow)
                        self.assertIs(refusal(lowered, web, [amount] * length, k), BadFlow)

    def test_then_no_flow(self):
        for k in (2, 3, MOST):
            for rests in ([1, 0, 0], [0, 1, 1], [k, k, k], [-1, -1, -1], [HUGE, HUGE, HUGE]):
                self.assertIs(refusal(lifted, TRIANGLE, rests, k), NoFlow)
                self.assertEqual(tie_of_refusal(lifted, TRIANGLE, rests, k), [None])
            for flow in ([1, 0, 0], [0, 1, 1], [k, k, 0], [HUGE, HUGE, HUGE - 1]):
                self.assertIs(refusal(lowered, TRIANGLE, flow, k), NoFlow)
                self.assertEqual(tie_of_refusal(lowered, TRIANGLE, flow, k), [None])

    def test_a_rest_flow_need_be_no_flow(self):
        self.assertIs(refusal(lowered, THREE, [1, 1, 0], 2), NoFlow)
        self.assertIsNone(refusal(lifted, THREE, [1, 1, 0], 2))

    def test_a_bridge_carries_nothing(self):
        for k in (2, 3):
            self.assertIs(refusal(lifted, ROW, [0, 1, 0], k), NoFlow)
            self.assertIs(refusal(lowered, ROW, [0, k, 0], k), NoFlow)

    def test_least_and_most(self):
        for k in (2, MOST):
            self.assertIsNone(refusal(lifted, TRIANGLE, [1, 1, 1], k))
            self.assertIsNone(refusal(lowered, TRIANGLE, [1, 1, 1], k))


class Own(unittest.TestCase):
    def test_a_told_list_that_is_changed_is_told_whole_again(self):
        for ask in (lambda: lifted(THREE, [1, 1, 2], 3), lambda: lowered(TRIANGLE, [7, 7, 7], 3),
                    lambda: lowered(TRIANGLE, [0, 0, 0], 3)):
            told = ask()
            again = ask()
            self.assertEqual(told, again)
            told.append(9)
            told[0] = 99
            self.assertEqual(ask(), again)

    def test_what_is_handed_in_stays_as_it_was(self):
        rests = [1, 1, 2]
        flow = [0, 0, 0]
        for told in (lifted(THREE, rests, 3), lowered(THREE, flow, 3)):
            told[0] = 99
            told.clear()
        self.assertEqual((rests, flow), ([1, 1, 2], [0, 0, 0]))
        self.assertEqual(THREE.ties, ((0, 1), (0, 1), (1, 0)))


if __name__ == "__main__":
    unittest.main()
