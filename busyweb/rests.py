"""Rest flows: flows but for multiples of a number."""

from busyweb.errors import BadFlow, BadRest, NoFlow
from busyweb.flows import added, check_amounts, gains, times
from busyweb.rings import free_ties, ring_of


def check_rest(k):
    if k < 2 or k > 10 ** 20:
        raise BadRest("rests are by a number from 2 to 10 ** 20")


def rests_of(amounts, k):
    check_rest(k)
    return [amount % k for amount in amounts]


def is_rest_flow(web, rests, k):
    check_rest(k)
    check_amounts(web, rests)
    if not all([0 <= rest < k for rest in rests]):
        return False
    return not any(rests_of(gains(web, rests), k))


def filled_whole(web, values):
    free = free_ties(web)
    if len(values) != len(free):
        raise BadFlow("there is not just one number for each free tie")
    told = [0] * len(web.ties)
    for tie, value in zip(free, values):
        told = added(told, times(value, ring_of(web, tie)))
    return told


def filled(web, values, k):
    check_rest(k)
    return rests_of(filled_whole(web, values), k)


def how_many_rests(web, k):
    check_rest(k)
    told = 1
    for tie in free_ties(web):
        told *= k
    return told


def rest_number(web, rests, k):
    if not is_rest_flow(web, rests, k):
        raise NoFlow(None)
    told = 0
    for tie in reversed(free_ties(web)):
        told = told * k + rests[tie]
    return told


def rests_numbered(web, number, k):
    check_rest(k)
    if not 0 <= number < how_many_rests(web, k):
        raise NoFlow(None)
    values = []
    left = number
    for tie in free_ties(web):
        values.append(left % k)
        left = left // k
    return filled(web, values, k)
