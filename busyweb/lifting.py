"""Flows within a number, lifted from rest flows or lowered from greater flows."""

from busyweb.bounds import between
from busyweb.errors import NoFlow
from busyweb.flows import added, is_flow, times
from busyweb.rests import check_rest, filled_whole, is_rest_flow
from busyweb.rings import free_ties


# The flow divided by k, parts of numbers and all, lies between these bounds.
# So no set of places is shut, and there is a flow of whole numbers, too.
def reduced(web, flow, k):
    lows = [amount // k for amount in flow]
    highs = [-(-amount // k) for amount in flow]
    return added(flow, times(-k, between(web, lows, highs)[1]))


def lifted(web, rests, k):
    if not is_rest_flow(web, rests, k):
        raise NoFlow(None)
    whole = filled_whole(web, [rests[tie] for tie in free_ties(web)])
    return reduced(web, whole, k)


def lowered(web, flow, k):
    check_rest(k)
    if not is_flow(web, flow):
        raise NoFlow(None)
    return reduced(web, flow, k)
