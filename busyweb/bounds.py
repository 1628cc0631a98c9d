"""Flows between bounds, or the sets of places that shut them out."""

from busyweb.errors import BadFlow
from busyweb.flows import check_amounts


def check_bounds(web, lows, highs):
    check_amounts(web, lows)
    check_amounts(web, highs)
    if any([low > high for low, high in zip(lows, highs)]):
        raise BadFlow("a low is above its high")


# For each tie a pair: by how much its amount may rise, and by how much it may
# fall. An amount that is out of its bounds has room towards them alone.
def rooms_left(amounts, lows, highs):
    return [(high - amount, amount - low) for amount, low, high in zip(amounts, lows, highs)]


# A step is a pair: a tie, and 1 where it is gone from its first end to its
# second one, -1 where it is gone the other way about.
def steps_from(web, rooms, place):
    steps = []
    for tie, ends in enumerate(web.ties):
        if ends[0] == place and rooms[tie][0] > 0:
            steps.append((tie, 1))
        if ends[1] == place and rooms[tie][1] > 0:
            steps.append((tie, -1))
    return steps


def step_end(web, step):
    ends = web.ties[step[0]]
    return ends[1] if step[1] == 1 else ends[0]


# The places are gone through in the order in which they are reached, so that
# each way is a shortest one: else great bounds could ask for as many rounds.
def ways_with_room(web, rooms, start):
    ways = {start: []}
    reached = [start]
    at = 0
    while at < len(reached):
        place = reached[at]
        for step in steps_from(web, rooms, place):
            other = step_end(web, step)
            if other not in ways:
                ways[other] = ways[place] + [step]
                reached.append(other)
        at += 1
    return ways


def room_along(rooms, steps):
    return [rooms[tie][0] if sense == 1 else rooms[tie][1] for tie, sense in steps]


def pushed(amounts, steps, size):
    told = list(amounts)
    for tie, sense in steps:
        told[tie] += sense * size
    return told


# Above nought where the amount must rise by so much, below nought where it must fall.
def change_due(amount, low, high):
    if amount < low:
        return low - amount
    if amount > high:
        return high - amount
    return 0


# What goes along the tie has to come back by the others. Where it can't, the
# ties out of the places reached carry their highs or more and those into them
# their lows or less, this tie truly more or less. As much goes out as comes
# in, so these lows come to more than these highs: the other places are shut.
def between(web, lows, highs):
    check_bounds(web, lows, highs)
    amounts = [0] * len(web.ties)
    for tie, ends in enumerate(web.ties):
        due = change_due(amounts[tie], lows[tie], highs[tie])
        while due != 0:
            step = (tie, 1 if due > 0 else -1)
            goal = ends[0] if due > 0 else ends[1]
            rooms = rooms_left(amounts, lows, highs)
            ways = ways_with_room(web, rooms, step_end(web, step))
            if goal not in ways:
                return ("shut", [place for place in range(web.many) if place not in ways])
            size = min([abs(due)] + room_along(rooms, ways[goal]))
            amounts = pushed(amounts, ways[goal] + [step], size)
            due = change_due(amounts[tie], lows[tie], highs[tie])
    return ("flow", amounts)
