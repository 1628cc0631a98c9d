"""Webs that several tests go through, and slow ways to the same answers."""

import itertools
import random

from busyweb.errors import FlowError, NoFlow
from busyweb.webs import Web

TRIANGLE = Web(3, [(0, 1), (1, 2), (2, 0)])
# Two rings, a bridge between them, a loop, a double tie, and a place alone.
MIXED = Web(8, [(4, 1), (1, 2), (2, 4), (2, 3), (3, 5), (5, 3), (6, 6), (5, 5)])
LONE = Web(1, [])
# Bridges alone.
ROW = Web(4, [(1, 0), (1, 2), (3, 2)])
# Each two of four places tied: three ties at each.
FOUR = Web(4, [(0, 1), (0, 2), (3, 0), (1, 2), (1, 3), (2, 3)])
# A number of more figures than Python is willing to write out.
VAST = 10 ** 5000
# The greatest amount of 40 figures.
HUGE = 10 ** 40 - 1


def drawn_web(chance, many, ties):
    return Web(many, [(chance.randrange(many), chance.randrange(many)) for each in range(ties)])


def small_webs():
    """Every web of at most 3 places and at most 3 ties."""
    told = []
    for many in (1, 2, 3):
        pairs = list(itertools.product(range(many), repeat=2))
        for size in range(4):
            told.extend(Web(many, ties) for ties in itertools.product(pairs, repeat=size))
    return told


def large_webs():
    """Webs of 20 places and 40 ties: drawn ones, one ring and more, one of bridges and loops."""
    chance = random.Random(20)
    told = [drawn_web(chance, 20, 40) for each in range(12)]
    round_ties = [(place, (place + 1) % 20) for place in range(20)]
    told.append(Web(20, round_ties + [(place, (place + 10) % 20) for place in range(20)]))
    row_ties = [(place + 1, place) for place in range(19)]
    told.append(Web(20, row_ties + [(place, place) for place in range(20)] + [(7, 7)]))
    told.append(Web(20, [(0, 19)] * 20 + [(19, 0)] * 20))
    return told


def sample_webs():
    chance = random.Random(7)
    drawn = [drawn_web(chance, chance.randint(1, 9), chance.randint(0, 14)) for each in range(150)]
    return [TRIANGLE, MIXED, LONE] + drawn + large_webs()


def reached_from(ties, start):
    """The set of places that hang together with one, by growing it till it stays."""
    had = {start}
    while True:
        more = {place for ends in ties for place in ends if set(ends) & had} | had
        if more == had:
            return had
        had = more


def slow_pieces(many, ties):
    told = []
    for place in range(many):
        piece = sorted(reached_from(ties, place))
        if piece not in told:
            told.append(piece)
    return told


def slow_gains(web, flow):
    """What each place gains, straight from the words of 2.1."""
    told = []
    for place in range(web.many):
        comes = sum(a for (start, end), a in zip(web.ties, flow) if end == place)
        goes = sum(a for (start, end), a in zip(web.ties, flow) if start == place)
        told.append(comes - goes)
    return told


def slow_bridges(web):
    told = []
    for tie, (start, end) in enumerate(web.ties):
        others = web.ties[:tie] + web.ties[tie + 1:]
        if end not in reached_from(others, start):
            told.append(tie)
    return told


def slow_is_flow(web, flow):
    return not any(slow_gains(web, flow))


def slow_is_rest_flow(web, rests, k):
    """Straight from the words of 0.4."""
    return all(0 <= rest < k for rest in rests) and all(gained % k == 0 for gained in slow_gains(web, rests))


def rest_lists(web, k):
    return [list(rests) for rests in itertools.product(range(k), repeat=len(web.ties))]


def subsets(web):
    """Every set of the web's ties, each as an ascending list."""
    ties = range(len(web.ties))
    return [list(some) for size in range(len(ties) + 1) for some in itertools.combinations(ties, size)]


def ties_carried(flow):
    return [tie for tie, amount in enumerate(flow) if amount != 0]


def slow_is_even(web, some):
    """Straight from the words of 7.1."""
    ends = [place for tie in some for place in web.ties[tie]]
    return all(ends.count(place) % 2 == 0 for place in range(web.many))


def slow_is_spanning(web, some):
    """Straight from the words of 7.2: no tie of it leads back by the others, and the pieces are the web's."""
    ties = [web.ties[tie] for tie in some]
    rings = [at for at, ends in enumerate(ties) if ends[1] in reached_from(ties[:at] + ties[at + 1:], ends[0])]
    return not rings and slow_pieces(web.many, ties) == slow_pieces(web.many, web.ties)


def spanning_forests(web):
    return [some for some in subsets(web) if slow_is_spanning(web, some)]


def drawn_forest(chance, web):
    """A spanning forest: the ties gone through in a drawn order, each taken that closes no ring."""
    taken = []
    for tie in chance.sample(range(len(web.ties)), len(web.ties)):
        start, end = web.ties[tie]
        if end not in reached_from([web.ties[one] for one in taken], start):
            taken.append(tie)
    return sorted(taken)


def wrong_sets(web):
    """Sets that are not ascending, have a number twice, or one that is no tie."""
    size = len(web.ties)
    told = [[-1], [size], [-size - 1], [size + 1], [VAST], [-VAST]]
    if size > 0:
        told += [[0, 0], [size - 1, size - 1], [-1, 0], [0, size], [0, VAST], [-size], [-VAST, 0]]
        told += [list(range(size)) + [size], [-1] + list(range(size)), list(range(size)) + [size - 1]]
    if size > 1:
        told += [[1, 0], [0, 0, 1], [0, 1, 1], [0, 1, 0], list(range(size))[::-1], [size - 1, 0]]
    return told


def refusal(ask, *given):
    """The very class with which it is refused; None where it isn't."""
    try:
        ask(*given)
    except FlowError as error:
        return type(error)
    return None


def tie_of_refusal(ask, *given):
    """The field of a NoFlow, in a list; None where there is no NoFlow."""
    try:
        ask(*given)
    except NoFlow as error:
        return [error.tie]
    return None
