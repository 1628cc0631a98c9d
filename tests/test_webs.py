"""0.2, 1.1 to 1.4, and 0.7 as far as it speaks of webs."""

import unittest

from busyweb.errors import BadPlace, BadTie, BadWeb, TooMany
from busyweb.webs import Web, degree, joined, less, pieces, put_together, ties_at, turned
from samples import LONE, MIXED, TRIANGLE, VAST, sample_webs, slow_pieces, small_webs


class Told(unittest.TestCase):
    def check(self, web, many, ties):
        self.assertIsInstance(web, Web)
        self.assertEqual(web.many, many)
        self.assertEqual(web.ties, tuple(ties))


class Making(Told):
    def test_fields(self):
        self.check(Web(3, [(0, 1), (2, 2), (1, 0)]), 3, [(0, 1), (2, 2), (1, 0)])
        self.assertEqual(sorted(vars(TRIANGLE)), ["many", "ties"])

    def test_no_method_but_the_making(self):
        self.assertEqual([name for name in vars(Web) if callable(vars(Web)[name])], ["__init__"])

    def test_lists_and_tuples_alike(self):
        for ties in ([(0, 1), (1, 1)], ((0, 1), (1, 1))):
            web = Web(2, ties)
            self.check(web, 2, [(0, 1), (1, 1)])
            self.assertIsInstance(web.ties, tuple)
            for pair in web.ties:
                self.assertIsInstance(pair, tuple)

    def test_a_list_changed_afterwards(self):
        ties = [(0, 1), (1, 0)]
        web = Web(2, ties)
        self.assertEqual(ties, [(0, 1), (1, 0)])
        ties[0] = (1, 1)
        ties.append((0, 0))
        self.check(web, 2, [(0, 1), (1, 0)])

    def test_least_and_most(self):
        for many in (1, 20):
            last = many - 1
            for size in (0, 40):
                self.check(Web(many, [(last, 0)] * size), many, [(last, 0)] * size)

    def test_too_many(self):
        for many in (0, 21, -1, -20, VAST):
            with self.assertRaises(TooMany):
                Web(many, [])
        for many in (1, 20):
            with self.assertRaises(TooMany):
                Web(many, [(0, 0)] * 41)
            with self.assertRaises(TooMany):
                Web(many, ((0, 0),) * 41)

    def test_ends_that_are_no_place(self):
        for many in (1, 3, 20):
            for end in (-1, -many, many, many + 1, VAST):
                for pair in ((end, 0), (0, end), (end, end)):
                    with self.assertRaises(BadWeb):
                        Web(many, [(0, 0), pair, (0, 0)])
                    with self.assertRaises(BadWeb):
                        Web(many, (pair,))

    def test_too_many_goes_first(self):
        for many, ties in ((0, [(0, 0)]), (21, [(0, 21)]), (21, [(-1, 0)]), (3, [(0, 3)] + [(0, 0)] * 40)):
            with self.assertRaises(TooMany):
                Web(many, ties)


class Places(unittest.TestCase):
    def test_ties_at(self):
        self.assertEqual(ties_at(TRIANGLE, 0), [0, 2])
        self.assertEqual([ties_at(MIXED, place) for place in range(8)],
                         [[], [0, 1], [1, 2, 3], [3, 4, 5], [0, 2], [4, 5, 7], [6], []])
        self.assertEqual(ties_at(LONE, 0), [])
        self.assertEqual(ties_at(Web(1, [(0, 0), (0, 0)]), 0), [0, 1])

    def test_degree_counts_a_loop_twice(self):
        self.assertEqual([degree(TRIANGLE, place) for place in range(3)], [2, 2, 2])
        self.assertEqual([degree(MIXED, place) for place in range(8)], [0, 2, 3, 3, 2, 4, 2, 0])
        self.assertEqual(degree(LONE, 0), 0)
        self.assertEqual(degree(Web(2, [(1, 1)] * 40), 1), 80)

    def test_degrees_and_loops_over_many_webs(self):
        for web in sample_webs() + small_webs():
            for place in range(web.many):
                ends = [end for pair in web.ties for end in pair]
                self.assertEqual(degree(web, place), ends.count(place))
                self.assertEqual(ties_at(web, place),
                                 [tie for tie in range(len(web.ties)) if place in web.ties[tie]])

    def test_no_place(self):
        for web in (LONE, TRIANGLE, MIXED, Web(20, [])):
            for place in (-1, -web.many, web.many, web.many + 1, VAST):
                for ask in (ties_at, degree):
                    with self.assertRaises(BadPlace):
                        ask(web, place)


class Pieces(unittest.TestCase):
    def test_pieces(self):
        self.assertEqual(pieces(LONE), [[0]])
        self.assertEqual(pieces(TRIANGLE), [[0, 1, 2]])
        self.assertEqual(pieces(MIXED), [[0], [1, 2, 3, 4, 5], [6], [7]])
        self.assertEqual(pieces(Web(4, [])), [[0], [1], [2], [3]])
        self.assertEqual(pieces(Web(6, [(5, 1), (3, 5), (4, 2), (2, 4), (0, 0)])), [[0], [1, 3, 5], [2, 4]])

    def test_pieces_over_many_webs(self):
        for web in sample_webs() + small_webs():
            self.assertEqual(pieces(web), slow_pieces(web.many, web.ties))

    def test_told_lists_are_the_askers_own(self):
        for ask in (pieces, lambda web: ties_at(web, 2)):
            told = ask(MIXED)
            again = ask(MIXED)
            told.clear()
            self.assertEqual(ask(MIXED), again)
        told = pieces(MIXED)
        told[1].append(9)
        self.assertEqual(pieces(MIXED), [[0], [1, 2, 3, 4, 5], [6], [7]])


class Changed(Told):
    def test_less(self):
        self.check(less(TRIANGLE, 0), 3, [(1, 2), (2, 0)])
        self.check(less(TRIANGLE, 1), 3, [(0, 1), (2, 0)])
        self.check(less(TRIANGLE, 2), 3, [(0, 1), (1, 2)])
        self.check(less(Web(1, [(0, 0)]), 0), 1, [])
        self.check(TRIANGLE, 3, [(0, 1), (1, 2), (2, 0)])

    def test_joined(self):
        self.check(joined(TRIANGLE, 0), 2, [(0, 1), (1, 0)])
        self.check(joined(TRIANGLE, 1), 2, [(0, 1), (1, 0)])
        self.check(joined(TRIANGLE, 2), 2, [(0, 1), (1, 0)])
        self.check(joined(Web(2, [(0, 1)]), 0), 1, [])
        self.check(TRIANGLE, 3, [(0, 1), (1, 2), (2, 0)])

    def test_joined_with_further_ties_between_the_ends(self):
        web = Web(4, [(1, 2), (2, 1), (1, 2), (2, 3), (0, 1), (3, 0), (2, 2)])
        self.check(joined(web, 0), 3, [(1, 1), (1, 1), (1, 2), (0, 1), (2, 0), (1, 1)])

    def test_joined_where_the_first_end_is_greater(self):
        web = Web(6, [(0, 1), (4, 1), (4, 5), (3, 4), (2, 3), (5, 0), (1, 4)])
        self.check(joined(web, 1), 5, [(0, 1), (1, 4), (3, 1), (2, 3), (4, 0), (1, 1)])

    def test_joined_at_a_loop(self):
        web = Web(3, [(0, 1), (1, 1), (1, 2), (1, 1)])
        self.check(joined(web, 1), 3, [(0, 1), (1, 2), (1, 1)])
        self.check(joined(web, 3), 3, [(0, 1), (1, 1), (1, 2)])

    def test_turned(self):
        self.check(turned(TRIANGLE, 2), 3, [(0, 1), (1, 2), (0, 2)])
        self.check(turned(TRIANGLE, 0), 3, [(1, 0), (1, 2), (2, 0)])
        self.check(turned(Web(2, [(1, 1), (0, 1)]), 0), 2, [(1, 1), (0, 1)])
        self.check(TRIANGLE, 3, [(0, 1), (1, 2), (2, 0)])

    def test_over_many_webs(self):
        for web in sample_webs() + small_webs():
            for tie, (start, end) in enumerate(web.ties):
                rest = [pair for other, pair in enumerate(web.ties) if other != tie]
                self.check(less(web, tie), web.many, rest)
                names = [min(start, end) if place == max(start, end) else place for place in range(web.many)]
                rising = sorted(set(names))
                self.check(joined(web, tie), len(rising),
                           [(rising.index(names[a]), rising.index(names[b])) for a, b in rest])
                self.check(turned(turned(web, tie), tie), web.many, web.ties)
                self.assertEqual(turned(web, tie).ties[tie], (end, start))

    def test_no_tie(self):
        for web in (LONE, TRIANGLE, MIXED):
            size = len(web.ties)
            for tie in (-1, -size - 1, -size, size, size + 1, VAST):
                for change in (less, joined, turned):
                    with self.assertRaises(BadTie):
                        change(web, tie)


class Together(Told):
    def test_put_together(self):
        self.check(put_together(TRIANGLE, Web(2, [(1, 0), (1, 1)])), 5,
                   [(0, 1), (1, 2), (2, 0), (4, 3), (4, 4)])
        self.check(put_together(Web(2, [(1, 0), (1, 1)]), TRIANGLE), 5,
                   [(1, 0), (1, 1), (2, 3), (3, 4), (4, 2)])
        self.check(put_together(LONE, LONE), 2, [])
        self.check(put_together(TRIANGLE, TRIANGLE), 6, [(0, 1), (1, 2), (2, 0), (3, 4), (4, 5), (5, 3)])
        self.check(TRIANGLE, 3, [(0, 1), (1, 2), (2, 0)])

    def test_just_the_most(self):
        web = put_together(Web(8, [(0, 7)] * 15), Web(12, [(11, 0)] * 25))
        self.check(web, 20, [(0, 7)] * 15 + [(19, 8)] * 25)

    def test_one_more(self):
        for one, two in ((Web(8, []), Web(13, [])), (Web(20, []), LONE),
                         (Web(2, [(0, 1)] * 15), Web(2, [(1, 0)] * 26)), (Web(1, [(0, 0)]), Web(1, [(0, 0)] * 40))):
            with self.assertRaises(TooMany):
                put_together(one, two)
            with self.assertRaises(TooMany):
                put_together(two, one)

    def test_pieces_are_put_together(self):
        webs = [web for web in sample_webs() if web.many <= 10 and len(web.ties) <= 20]
        for one, two in zip(webs, webs[1:]):
            behind = [[one.many + place for place in piece] for piece in pieces(two)]
            self.assertEqual(pieces(put_together(one, two)), pieces(one) + behind)


if __name__ == "__main__":
    unittest.main()
