"""The whole parts of a web, and two ways without a common tie."""

from busyweb.bounds import pushed, rooms_left, ways_with_room
from busyweb.rings import bridges, find_way
from busyweb.webs import Web, check_place, pieces


def whole_parts(web):
    lone = bridges(web)
    return pieces(Web(web.many, [ends for tie, ends in enumerate(web.ties) if tie not in lone]))


# The second way may go back along a tie of the first one: then neither of the
# two that come of them has it.
def ties_for_two_ways(web, one, two):
    size = len(web.ties)
    amounts = [0] * size
    for turn in range(2):
        ways = ways_with_room(web, rooms_left(amounts, [-1] * size, [1] * size), one)
        if two not in ways:
            return None
        amounts = pushed(amounts, ways[two], 1)
    return [tie for tie, amount in enumerate(amounts) if amount != 0]


# Of the ties found an even number of ends lie at each place. So when one way,
# whichever, is taken out, the two places alone have an odd number left: they
# still hang together.
def two_ways(web, one, two):
    check_place(web, one)
    check_place(web, two)
    some = ties_for_two_ways(web, one, two)
    if some is None:
        return None
    first = find_way(web, some, one, two)
    second = find_way(web, [tie for tie in some if tie not in first], one, two)
    return (first, second)
