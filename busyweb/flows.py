"""Amount lists, and which of them are flows."""

from busyweb.errors import BadFlow
from busyweb.webs import check_place, check_tie


def check_amounts(web, flow):
    if len(flow) != len(web.ties):
        raise BadFlow("there is not just one amount for each tie")


def gains(web, flow):
    told = [0] * web.many
    for ends, amount in zip(web.ties, flow):
        told[ends[0]] -= amount
        told[ends[1]] += amount
    return told


def gain(web, flow, place):
    check_place(web, place)
    check_amounts(web, flow)
    return gains(web, flow)[place]


def is_flow(web, flow):
    check_amounts(web, flow)
    return not any(gains(web, flow))


def is_busy(flow):
    return 0 not in flow


def within(flow, most):
    return all([-most < amount < most for amount in flow])


def across(web, flow, places):
    for place in places:
        check_place(web, place)
    check_amounts(web, flow)
    total = 0
    for ends, amount in zip(web.ties, flow):
        if ends[0] in places and ends[1] not in places:
            total += amount
        if ends[1] in places and ends[0] not in places:
            total -= amount
    return total


def added(one, two):
    if len(one) != len(two):
        raise BadFlow("amount lists of unlike lengths can't be added")
    return [first + second for first, second in zip(one, two)]


def times(number, flow):
    return [number * amount for amount in flow]


def turned_flow(web, flow, tie):
    check_tie(web, tie)
    check_amounts(web, flow)
    told = list(flow)
    told[tie] = -flow[tie]
    return told
