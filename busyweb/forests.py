"""Two spanning forests without a common tie, or a parting that shows that there are none."""

from busyweb.rings import way_back
from busyweb.webs import Web, pieces


# Two forests that grow are told by one list: for each tie 0 or 1, the forest
# that holds it, or None.
def ties_of(owners, owner):
    return [tie for tie, one in enumerate(owners) if one == owner]


# Each tie asks for a forest that doesn't hold it. Where that forest has a ring
# with it, the ring's ties would have to make room, and they ask in their turn.
# Told are the tie that each of them makes room for, and the first one found that
# a forest can take at once, with that forest, or None.
def asked_from(web, owners, starts):
    askers = dict([(tie, None) for tie in starts])
    waiting = list(starts)
    at = 0
    while at < len(waiting):
        tie = waiting[at]
        for side in [one for one in (0, 1) if one != owners[tie]]:
            back = way_back(web, tie, ties_of(owners, side))
            if back is None:
                return (askers, (tie, side))
            for other in back:
                if other not in askers:
                    askers[other] = tie
                    waiting.append(other)
        at += 1
    return (askers, None)


# The ties ask in the order in which they were reached, so the row of moves is
# a shortest one: by a longer one the moves could make a ring among them.
def moved(owners, askers, taken):
    told = list(owners)
    tie = taken[0]
    side = taken[1]
    while tie is not None:
        told[tie] = side
        side = owners[tie]
        tie = askers[tie]
    return told


# A tie that can't be taken can't be taken later either, when the forests have
# grown: so each asks but once.
def grown_forests(web):
    owners = [None] * len(web.ties)
    for tie in range(len(web.ties)):
        told = asked_from(web, owners, [tie])
        if told[1] is not None:
            owners = moved(owners, told[0], told[1])
    return owners


# The ties that are asked, from those that are left over, hold the same places
# together as those among them of either forest alone. All others are of the
# forests. So, where the forests are too small, too few ties cross the parting.
def parting_of(web, owners):
    told = asked_from(web, owners, ties_of(owners, None))
    return pieces(Web(web.many, [web.ties[tie] for tie in sorted(told[0])]))


def two_forests(web):
    owners = grown_forests(web)
    one = ties_of(owners, 0)
    two = ties_of(owners, 1)
    if len(one) + len(two) == 2 * (web.many - len(pieces(web))):
        return ("forests", one, two)
    return ("parting", parting_of(web, owners))


def is_parting(web, lists):
    places = []
    for some in lists:
        if some == [] or some != sorted(some):
            return False
        places.extend(some)
    leasts = [some[0] for some in lists]
    return sorted(places) == list(range(web.many)) and leasts == sorted(leasts)


def crosses(lists, ends):
    return any([ends[0] in some and ends[1] not in some for some in lists])


def parting_shows(web, lists):
    if not is_parting(web, lists):
        return False
    crossing = [ends for ends in web.ties if crosses(lists, ends)]
    return len(crossing) < 2 * (len(lists) - len(pieces(web)))
