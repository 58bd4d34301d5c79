"""Webs: made of points and ties, taken apart at a tie, put together.

A web is a tuple (POINTS, TIES), TIES a tuple of tuples (A, B), A not above B.
"""

from tietable.errors import NoTie, NoWeb

MOST_POINTS = 6
MOST_TIES = 9


def web_of(points, ties):
    refuse_numbers(points, len(ties))
    for place, thing in enumerate(ties):
        if not is_tie(thing, points):
            raise NoWeb(f"what stands at place {place} is no tie of this web", place)
    return (points, tuple(ties))


def without(web, tie):
    refuse_tie(web, tie)
    ties = web[1]
    return (web[0], ties[:tie] + ties[tie + 1:])


def drawn(web, tie):
    others = without(web, tie)
    ends = web[1][tie]
    # A loop has one point alone, so there are no two to become one.
    if ends[0] == ends[1]:
        return others
    return as_one(others, ends[0], ends[1])


def beside(one, other):
    both = put_behind(one, other)
    refuse_numbers(both[0], len(both[1]))
    return both


def joined(one, point, other, place):
    # Seven points side by side are six when joined: only what comes is to be refused.
    whole = as_one(put_behind(one, other), point, one[0] + place)
    refuse_numbers(whole[0], len(whole[1]))
    return whole


def refuse_numbers(points, many):
    if not 1 <= points <= MOST_POINTS:
        raise NoWeb(f"a web has from 1 to {MOST_POINTS} points, not {points}", None)
    if many > MOST_TIES:
        raise NoWeb(f"a web has at most {MOST_TIES} ties, not {many}", None)


def refuse_tie(web, tie):
    if not 0 <= tie < len(web[1]):
        raise NoTie(f"no tie of this web has the number {tie}", tie)


def is_tie(thing, points):
    if not isinstance(thing, tuple) or len(thing) != 2:
        return False
    return 0 <= thing[0] <= thing[1] < points


def put_behind(one, other):
    moved_up = [(tie[0] + one[0], tie[1] + one[0]) for tie in other[1]]
    return (one[0] + other[0], one[1] + tuple(moved_up))


def as_one(web, lesser, greater):
    ties = [rising_tie(number_as_one(tie[0], lesser, greater), number_as_one(tie[1], lesser, greater))
            for tie in web[1]]
    return (web[0] - 1, tuple(ties))


def number_as_one(point, lesser, greater):
    if point == greater:
        return lesser
    if point > greater:
        return point - 1
    return point


def rising_tie(one, other):
    return (min(one, other), max(one, other))
