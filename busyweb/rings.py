"""The forest of a web, its free ties, its bridges, and the flows of rings."""

from busyweb.errors import BadTie
from busyweb.webs import check_tie, merged


def forest(web):
    labels = list(range(web.many))
    taken = []
    for tie, ends in enumerate(web.ties):
        if labels[ends[0]] != labels[ends[1]]:
            taken.append(tie)
            labels = merged(labels, ends[0], ends[1])
    return taken


def free_ties(web):
    taken = forest(web)
    return [tie for tie in range(len(web.ties)) if tie not in taken]


def far_end(web, tie, place):
    ends = web.ties[tie]
    return ends[1] if ends[0] == place else ends[0]


# The places are gone through in the order in which they are reached, each
# reached but once, so the way found goes by no place twice.
def find_way(web, some, start, goal):
    ways = {start: []}
    reached = [start]
    step = 0
    while goal not in ways and step < len(reached):
        place = reached[step]
        for tie in [one for one in some if place in web.ties[one]]:
            other = far_end(web, tie, place)
            if other not in ways:
                ways[other] = ways[place] + [tie]
                reached.append(other)
        step += 1
    return ways.get(goal)


# The ties told never hold the tie itself: else a bridge would lead back by itself.
def way_back(web, tie, some):
    ends = web.ties[tie]
    return find_way(web, some, ends[1], ends[0])


def ring_flow(web, tie, back):
    told = [0] * len(web.ties)
    told[tie] = 1
    place = web.ties[tie][1]
    for one in back:
        told[one] = 1 if web.ties[one][0] == place else -1
        place = far_end(web, one, place)
    return told


def other_ties(web, tie):
    return [one for one in range(len(web.ties)) if one != tie]


# A free tie is never a bridge: the forest joins its ends without it.
def bridges(web):
    return [tie for tie in forest(web) if way_back(web, tie, other_ties(web, tie)) is None]


def ring_of(web, tie):
    check_tie(web, tie)
    taken = forest(web)
    if tie in taken:
        raise BadTie("a tie of the forest has no ring of its own")
    return ring_flow(web, tie, way_back(web, tie, taken))


def ring_through(web, tie):
    check_tie(web, tie)
    back = way_back(web, tie, other_ties(web, tie))
    if back is None:
        return None
    return ring_flow(web, tie, back)
