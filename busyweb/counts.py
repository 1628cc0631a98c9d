"""How many busy rest flows a web has, told by its polynomial."""

from busyweb.errors import TooMany
from busyweb.flows import added, times
from busyweb.rests import check_rest

MOST_COUNTED = 15


# Webs that are alike but for the numbers of their places, and for places
# without ties, have one polynomial: told alike they are gone on with as one,
# and so the webs don't grow twice as many with each tie.
def told_alike(ties):
    numbers = {}
    told = []
    for start, end in ties:
        first = numbers.setdefault(start, len(numbers))
        second = numbers.setdefault(end, len(numbers))
        told.append((first, second))
    return tuple(told)


def made_one(ties, one, two):
    return [(one if start == two else start, one if end == two else end) for start, end in ties]


# The row's last number is nought as long as a tie is left: it has one number
# more than the web has ties, and each tie moves the others on but once.
def by_loop(row):
    return [lower - number for lower, number in zip([0] + row[:-1], row)]


# A web without its first tie, told as pairs of ties and the row that the
# polynomial of these is to be multiplied by.
def shares(ties, row):
    start = ties[0][0]
    end = ties[0][1]
    others = ties[1:]
    if start == end:
        return [(others, by_loop(row))]
    return [(made_one(others, start, end), row), (others, times(-1, row))]


def without_first_ties(rows):
    told = {}
    for ties, row in rows.items():
        for others, share in shares(ties, row):
            alike = told_alike(others)
            told[alike] = added(told[alike], share) if alike in told else share
    return told


def without_noughts(row):
    size = len(row)
    while size > 1 and row[size - 1] == 0:
        size -= 1
    return row[:size]


def polynomial(web):
    many = len(web.ties)
    if many > MOST_COUNTED:
        raise TooMany("webs of at most 15 ties are counted")
    rows = {web.ties: [1] + [0] * many}
    for tie in range(many):
        rows = without_first_ties(rows)
    return without_noughts(rows[()])


def worth_at(row, k):
    told = 0
    for number in reversed(row):
        told = told * k + number
    return told


def how_many(web, k):
    check_rest(k)
    return worth_at(polynomial(web), k)
