"""Even sets of ties, their flows, and those that complete a spanning forest."""

from busyweb.errors import BadSet
from busyweb.lifting import lifted
from busyweb.rests import is_rest_flow
from busyweb.rings import free_ties, way_back
from busyweb.webs import Web, pieces


def check_set(web, some):
    if any([not 0 <= tie < len(web.ties) for tie in some]):
        raise BadSet("the set has a number that is no tie")
    if any([one >= two for one, two in zip(some, some[1:])]):
        raise BadSet("the set is not told ascending, each tie once")


def marks(web, some):
    return [1 if tie in some else 0 for tie in range(len(web.ties))]


# By 2 it is all one whether a tie comes or goes, and a loop's two ends count
# for nothing: so a set is even just where its marks are a rest flow.
def is_even(web, some):
    check_set(web, some)
    return is_rest_flow(web, marks(web, some), 2)


def even_flow(web, some):
    if not is_even(web, some):
        raise BadSet("the set is not even")
    return lifted(web, marks(web, some), 2)


def is_spanning_forest(web, some):
    part = Web(web.many, [web.ties[tie] for tie in some])
    return not free_ties(part) and pieces(part) == pieces(web)


def check_spanning_forest(web, some):
    check_set(web, some)
    if not is_spanning_forest(web, some):
        raise BadSet("the set is no spanning forest")


# Each tie outside of the forest makes a ring with ties of it. What an odd
# number of these rings have is even, and each outside tie is in just its own.
def completed(web, some):
    check_spanning_forest(web, some)
    outside = [tie for tie in range(len(web.ties)) if tie not in some]
    counts = [0] * len(web.ties)
    for tie in outside:
        for one in [tie] + way_back(web, tie, some):
            counts[one] += 1
    return [tie for tie, number in enumerate(counts) if number % 2 == 1]
