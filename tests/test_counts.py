"""Stage 6, how many busy rest flows there are, and 0.7 and 0.8 as far as they speak of it."""

import itertools
import random
import time
import unittest

from busyweb.counts import how_many, polynomial, worth_at
from busyweb.errors import BadRest, TooMany
from busyweb.webs import Web, joined, less, put_together, turned
from samples import (FOUR, LONE, MIXED, ROW, TRIANGLE, VAST, drawn_web, refusal, rest_lists, slow_bridges,
                     slow_is_rest_flow, slow_pieces, small_webs)

GREATEST = 10 ** 20
# Ten places, each with three ties: a ring of five, a star of five, and a tie between each two.
STAR = Web(10, [(place, (place + 1) % 5) for place in range(5)] + [(place, place + 5) for place in range(5)]
           + [(place + 5, (place + 2) % 5 + 5) for place in range(5)])


def drawn_webs(seed, most_ties):
    chance = random.Random(seed)
    return [drawn_web(chance, chance.randint(1, 5), chance.randint(0, most_ties)) for each in range(60)]


def full_webs():
    """Webs of 15 ties and of every number of places: drawn ones, and, where it can be, without a bridge."""
    chance = random.Random(15)
    told = []
    for many in range(1, 21):
        told += [drawn_web(chance, many, 15) for each in range(3)]
        if many <= 15:
            ties = [(place, (place + 1) % many) for place in range(many)]
            ties += [(chance.randrange(many), chance.randrange(many)) for each in range(15 - many)]
            told += [Web(many, ties), Web(many, chance.sample(ties, 15))]
    return told


def counted(web, k):
    """By trial of every list without a nought."""
    lists = itertools.product(range(1, k), repeat=len(web.ties))
    return sum(slow_is_rest_flow(web, rests, k) for rests in lists)


def counted_by_gains(web, k):
    """By going through the ties: in how many ways the places come to gain so much, by rests."""
    ways = {(0,) * web.many: 1}
    for start, end in web.ties:
        more = {}
        for gained, number in ways.items():
            for rest in range(1, k):
                now = list(gained)
                now[start] = (now[start] - rest) % k
                now[end] = (now[end] + rest) % k
                more[tuple(now)] = more.get(tuple(now), 0) + number
        ways = more
    return ways.get((0,) * web.many, 0)


def told_short(row):
    told = list(row)
    while len(told) > 1 and told[-1] == 0:
        told.pop()
    return told


def row_less(one, two):
    return told_short([first - second for first, second in itertools.zip_longest(one, two, fillvalue=0)])


def multiplied(one, two):
    told = [0] * (len(one) + len(two) - 1)
    for at, first in enumerate(one):
        for behind, second in enumerate(two):
            told[at + behind] += first * second
    return told_short(told)


def from_roots(*rows):
    told = [1]
    for row in rows:
        told = multiplied(told, row)
    return told


class Polynomial(unittest.TestCase):
    def test_known_rows(self):
        self.assertEqual(polynomial(TRIANGLE), [-1, 1])
        self.assertEqual(polynomial(Web(2, [(0, 1), (0, 1), (1, 0)])), [2, -3, 1])
        self.assertEqual(polynomial(FOUR), [-6, 11, -6, 1])
        self.assertEqual(polynomial(STAR), from_roots([-1, 1], [-2, 1], [-3, 1], [-4, 1], [10, -5, 1]))
        self.assertEqual(polynomial(Web(20, [(3, 7), (7, 11), (11, 3)])), [-1, 1])

    def test_a_web_without_ties(self):
        for many in range(1, 21):
            self.assertEqual(polynomial(Web(many, [])), [1])

    def test_a_bridge(self):
        for web in (MIXED, ROW, Web(2, [(1, 0)]), Web(20, [(5, 9)])):
            self.assertEqual(polynomial(web), [0])
        for at in range(15):
            others = [(0, 1), (1, 2), (2, 0), (3, 4), (4, 3), (3, 3), (0, 2)] * 2
            web = Web(5, others[:at] + [(2, 4)] + others[at:])
            self.assertEqual(polynomial(web), [0])

    def test_loops_only(self):
        row = [1]
        for size in range(16):
            self.assertEqual(polynomial(Web(1, [(0, 0)] * size)), row)
            self.assertEqual(polynomial(Web(4, [(tie % 3, tie % 3) for tie in range(size)])), row)
            row = multiplied(row, [-1, 1])

    def test_several_ties_between_the_same_places(self):
        for size in range(1, 16):
            row = polynomial(Web(2, [(tie % 2, 1 - tie % 2) for tie in range(size)]))
            for k in (2, 3, 4, 5, 10):
                sign = 1 if size % 2 == 0 else -1
                self.assertEqual(worth_at(row, k), ((k - 1) ** size + sign * (k - 1)) // k)
            self.assertEqual(len(row), max(size - 1, 0) + 1)

    def test_several_pieces(self):
        web = Web(9, [(8, 0), (3, 4), (0, 8), (4, 5), (7, 7), (5, 3)])
        self.assertEqual(polynomial(web), from_roots([-1, 1], [-1, 1], [-1, 1]))

    def test_against_trial(self):
        few = [web for web in drawn_webs(61, 6) if len(web.ties) <= 5]
        for web in few + drawn_webs(62, 4) + [TRIANGLE, LONE, ROW, FOUR] + small_webs()[::7]:
            row = polynomial(web)
            for k in (2, 3, 4, 5):
                self.assertEqual(worth_at(row, k), counted(web, k))
                self.assertEqual(how_many(web, k), counted(web, k))

    def test_against_trial_of_larger_webs(self):
        for web in [MIXED] + drawn_webs(63, 9):
            row = polynomial(web)
            for k in (2, 3, 4, 5):
                self.assertEqual(worth_at(row, k), counted_by_gains(web, k))

    def test_no_noughts_at_the_end(self):
        for web in small_webs() + drawn_webs(64, 15) + full_webs():
            row = polynomial(web)
            self.assertIsInstance(row, list)
            self.assertTrue(row == [0] or row[-1] != 0)
            self.assertTrue(all(isinstance(number, int) for number in row))

    def test_just_fifteen_ties(self):
        webs = full_webs()
        self.assertEqual({web.many for web in webs}, set(range(1, 21)))
        self.assertEqual({len(web.ties) for web in webs}, {15})
        began = time.monotonic()
        rows = [polynomial(web) for web in webs]
        # A hundredth of that will do: it stands against steps that grow twice as many with each tie.
        self.assertLess(time.monotonic() - began, 60)
        for web, row in zip(webs, rows):
            self.assertEqual(worth_at(row, 2), counted_by_gains(web, 2))
            self.assertEqual(row == [0], bool(slow_bridges(web)))
            if web.many <= 8:
                self.assertEqual(worth_at(row, 3), counted_by_gains(web, 3))


class Rules(unittest.TestCase):
    def webs(self):
        return small_webs()[::3] + drawn_webs(65, 9) + full_webs()[::4] + [MIXED, FOUR, STAR, TRIANGLE, ROW]

    def test_joined_and_less(self):
        for web in self.webs():
            row = polynomial(web)
            for tie, (start, end) in enumerate(web.ties):
                if start != end:
                    self.assertEqual(row, row_less(polynomial(joined(web, tie)), polynomial(less(web, tie))))
                else:
                    self.assertEqual(row, multiplied([-1, 1], polynomial(less(web, tie))))

    def test_put_together(self):
        webs = [LONE, TRIANGLE, FOUR, ROW, MIXED, Web(1, [(0, 0)]), Web(2, [(0, 1)] * 4)] + drawn_webs(66, 7)[:20]
        pairs = [(one, two) for one in webs for two in webs if len(one.ties) + len(two.ties) <= 15]
        self.assertGreater(len(pairs), 600)
        for one, two in pairs:
            self.assertEqual(polynomial(put_together(one, two)), multiplied(polynomial(one), polynomial(two)))

    def test_directions_order_and_numbers(self):
        chance = random.Random(67)
        for web in self.webs():
            row = polynomial(web)
            for tie in range(len(web.ties)):
                self.assertEqual(polynomial(turned(web, tie)), row)
            for each in range(3):
                order = chance.sample(web.ties, len(web.ties))
                self.assertEqual(polynomial(Web(web.many, order)), row)
                numbers = chance.sample(range(20), web.many)
                ties = [(numbers[start], numbers[end]) for start, end in web.ties]
                self.assertEqual(polynomial(Web(20, ties)), row)

    def test_one_number_more_than_free_ties(self):
        without = [web for web in self.webs() if not slow_bridges(web)]
        self.assertGreater(len(without), 50)
        for web in without:
            row = polynomial(web)
            free = len(web.ties) - web.many + len(slow_pieces(web.many, web.ties))
            self.assertEqual(len(row), free + 1)
            self.assertEqual(row[-1], 1)
        for web in self.webs():
            if slow_bridges(web):
                self.assertEqual(polynomial(web), [0])


class Pairs(unittest.TestCase):
    def pairs(self, web, first, second):
        ones = [rests for rests in rest_lists(web, first) if slow_is_rest_flow(web, rests, first)]
        twos = [rests for rests in rest_lists(web, second) if slow_is_rest_flow(web, rests, second)]
        return sum(all(one or two for one, two in zip(rests, others)) for rests in ones for others in twos)

    def test_products(self):
        chance = random.Random(68)
        drawn = [drawn_web(chance, chance.randint(1, 4), chance.randint(0, 5)) for each in range(40)]
        for web in drawn + [TRIANGLE, ROW, LONE, FOUR, Web(1, [(0, 0)] * 3)]:
            for first, second in ((2, 2), (2, 3), (3, 2), (3, 3)):
                self.assertEqual(how_many(web, first * second), self.pairs(web, first, second))


class Worth(unittest.TestCase):
    def test_worth(self):
        self.assertEqual(worth_at([5, 3, 2], 0), 5)
        self.assertEqual(worth_at([5, 3, 2], 1), 10)
        self.assertEqual(worth_at([5, 3, 2], 10), 235)
        self.assertEqual(worth_at([5, 3, 2], -1), 4)
        self.assertEqual(worth_at([-5, 0, 2, -1], -3), 40)
        self.assertEqual(worth_at([7], -9), 7)

    def test_noughts_at_the_end(self):
        self.assertEqual(worth_at([0], 12), 0)
        self.assertEqual(worth_at([1, 1, 0, 0], 4), 5)

    def test_the_empty_row(self):
        for k in (0, 1, -1, 2, GREATEST, VAST, -VAST):
            self.assertEqual(worth_at([], k), 0)

    def test_great_numbers(self):
        self.assertEqual(worth_at([1, 0, 3], VAST), 3 * VAST * VAST + 1)
        self.assertEqual(worth_at([1, 2, 3], -VAST), 3 * VAST * VAST - 2 * VAST + 1)
        self.assertEqual(worth_at([VAST, -VAST], 2), -VAST)

    def test_rows_of_any_length(self):
        for size in (1, 2, 10, 3000):
            self.assertEqual(worth_at([1] * size, 2), 2 ** size - 1)
            self.assertEqual(worth_at([1] * size, -1), size % 2)
            self.assertEqual(worth_at([3] * size, 0), 3)

    def test_at_one_and_two(self):
        for web in small_webs() + drawn_webs(69, 15) + full_webs() + [LONE, MIXED, STAR, FOUR]:
            row = polynomial(web)
            self.assertEqual(worth_at(row, 1), 0 if web.ties else 1)
            ends = [place for pair in web.ties for place in pair]
            even = all(ends.count(place) % 2 == 0 for place in range(web.many))
            self.assertEqual(worth_at(row, 2), 1 if even else 0)


class HowMany(unittest.TestCase):
    def test_the_ends_of_k(self):
        self.assertEqual(how_many(TRIANGLE, 2), 1)
        self.assertEqual(how_many(FOUR, 2), 0)
        self.assertEqual(how_many(TRIANGLE, GREATEST), GREATEST - 1)
        self.assertEqual(how_many(FOUR, GREATEST), (GREATEST - 1) * (GREATEST - 2) * (GREATEST - 3))
        self.assertEqual(how_many(Web(1, [(0, 0)] * 15), GREATEST), (GREATEST - 1) ** 15)
        for k in (2, GREATEST):
            self.assertEqual(how_many(LONE, k), 1)
            self.assertEqual(how_many(ROW, k), 0)

    def test_the_star(self):
        self.assertEqual([how_many(STAR, k) for k in (2, 3, 4, 5)], [0, 0, 0, 240])


class Refused(unittest.TestCase):
    def too_large(self):
        told = [Web(many, [(0, many - 1)] * size) for many in (1, 2, 20) for size in (16, 17, 40)]
        row = [(place, place + 1) for place in range(19)]
        told += [Web(20, row), Web(20, row[:16])]
        return told + [Web(3, [(0, 1)] + [(1, 2)] * 15), Web(2, [(0, 1)] + [(1, 1)] * 39)]

    def test_too_many_ties(self):
        for web in self.too_large():
            self.assertIs(refusal(polynomial, web), TooMany)
            for k in (2, 3, GREATEST):
                self.assertIs(refusal(how_many, web, k), TooMany)

    def test_bad_rests_go_first(self):
        for web in [LONE, TRIANGLE, ROW, STAR] + self.too_large():
            for k in (1, 0, -1, -2, -GREATEST, GREATEST + 1, VAST, -VAST):
                self.assertIs(refusal(how_many, web, k), BadRest)


class Own(unittest.TestCase):
    def test_changed(self):
        for web in (LONE, ROW, FOUR, STAR):
            told = polynomial(web)
            again = list(told)
            self.assertIsNot(polynomial(web), told)
            told.append(9)
            told[0] = 4
            self.assertEqual(polynomial(web), again)
            self.assertEqual(how_many(web, 5), worth_at(again, 5))

    def test_what_is_handed_in_stays(self):
        row = [3, 0, -1, 0]
        worth_at(row, 7)
        self.assertEqual(row, [3, 0, -1, 0])
        ties = ((0, 1), (1, 1), (1, 0), (2, 2))
        web = Web(3, ties)
        polynomial(web)
        how_many(web, 6)
        self.assertEqual((web.many, web.ties), (3, ties))


if __name__ == "__main__":
    unittest.main()
