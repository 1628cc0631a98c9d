"""Busy flows laid together from the flows of even sets."""

from busyweb.errors import BadSet
from busyweb.evens import completed, even_flow
from busyweb.flows import added, times


def check_all_held(web, sets):
    for tie in range(len(web.ties)):
        if not any([tie in some for some in sets]):
            raise BadSet("a tie is in none of the sets")


# No amount is 0: at each tie the last set that holds it counts for more than
# all sets ahead of it together.
def layered(web, sets):
    told = [0] * len(web.ties)
    weight = 1
    for some in sets:
        told = added(told, times(weight, even_flow(web, some)))
        weight *= 2
    check_all_held(web, sets)
    return told


# A tie that is not in the one forest is in its even set, and one that is in it
# is not in the other forest: so the two even sets hold all ties.
def from_forests(web, one, two):
    first = completed(web, one)
    second = completed(web, two)
    if any([tie in two for tie in one]):
        raise BadSet("the two forests have a common tie")
    return layered(web, [first, second])
