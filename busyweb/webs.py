"""Webs: places, and ties between them."""

from busyweb.errors import BadPlace, BadTie, BadWeb, TooMany

MOST_PLACES = 20
MOST_TIES = 40


class Web:
    def __init__(self, many, ties):
        if many < 1 or many > MOST_PLACES or len(ties) > MOST_TIES:
            raise TooMany("a web has 1 to 20 places and at most 40 ties")
        for start, end in ties:
            if not (0 <= start < many and 0 <= end < many):
                raise BadWeb("an end of a tie is no place of the web")
        self.many = many
        self.ties = tuple([(start, end) for start, end in ties])


# No refusal writes out the number that it refuses: Python itself refuses to
# write numbers of some thousand figures, and that would come in its place.
def check_place(web, place):
    if not 0 <= place < web.many:
        raise BadPlace("the web has no place of this number")


def check_tie(web, tie):
    if not 0 <= tie < len(web.ties):
        raise BadTie("the web has no tie of this number")


def ties_at(web, place):
    check_place(web, place)
    return [tie for tie, ends in enumerate(web.ties) if place in ends]


def degree(web, place):
    check_place(web, place)
    return sum([ends.count(place) for ends in web.ties])


# A place's label is the least place that it is known to hang together with,
# so that the pieces come out by their least places.
def merged(labels, one, two):
    low = min(labels[one], labels[two])
    high = max(labels[one], labels[two])
    return [low if label == high else label for label in labels]


def pieces(web):
    labels = list(range(web.many))
    for start, end in web.ties:
        labels = merged(labels, start, end)
    groups = {}
    for place, label in enumerate(labels):
        groups.setdefault(label, []).append(place)
    return list(groups.values())


def less(web, tie):
    check_tie(web, tie)
    return Web(web.many, web.ties[:tie] + web.ties[tie + 1:])


def joined(web, tie):
    rest = less(web, tie)
    low = min(web.ties[tie])
    high = max(web.ties[tie])
    if low == high:
        return rest
    numbers = [place - 1 if place > high else place for place in range(web.many)]
    numbers[high] = low
    return Web(web.many - 1, [(numbers[start], numbers[end]) for start, end in rest.ties])


def turned(web, tie):
    check_tie(web, tie)
    ties = list(web.ties)
    ties[tie] = (web.ties[tie][1], web.ties[tie][0])
    return Web(web.many, ties)


def put_together(one, two):
    behind = [(one.many + start, one.many + end) for start, end in two.ties]
    return Web(one.many + two.many, list(one.ties) + behind)
