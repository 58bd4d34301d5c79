"""Webs and sets of ties that several test files walk through."""

from itertools import combinations, combinations_with_replacement, product

# Four points each with each, a hexagon with its three long ties, a prism, and webs with
# loops, ties between the same two points, lone points and bridges.
GREAT_WEBS = [
    (4, ((0, 1), (0, 2), (0, 3), (1, 2), (1, 3), (2, 3))),
    (6, ((0, 1), (1, 2), (2, 3), (3, 4), (4, 5), (0, 5), (0, 3), (1, 4), (2, 5))),
    (6, ((0, 1), (1, 2), (0, 2), (3, 4), (4, 5), (3, 5), (0, 3), (1, 4), (2, 5))),
    (5, ((0, 4), (0, 4), (4, 4), (1, 3), (1, 3), (1, 3), (3, 3), (0, 0), (2, 2))),
    (6, ((0, 5), (4, 5), (3, 4), (3, 5), (1, 2), (1, 1), (1, 2), (2, 4), (0, 0))),
    (6, ((0, 1), (1, 2), (2, 3), (3, 4), (4, 5))),
    (1, tuple([(0, 0)] * 9)),
    (2, tuple([(0, 1)] * 9)),
    (6, ()),
]


def all_ties(points):
    return list(combinations_with_replacement(range(points), 2))


def small_webs():
    """Every web of at most three points and three ties, in every order of the ties."""
    return [(points, ties)
            for points in (1, 2, 3)
            for many in range(4)
            for ties in product(all_ties(points), repeat=many)]


def middle_webs():
    """Every web of four points and four ties, but for the order of the ties."""
    return [(4, ties) for ties in combinations_with_replacement(all_ties(4), 4)]


def many_webs():
    return small_webs() + middle_webs() + GREAT_WEBS


def sets_of(web):
    ties = range(len(web[1]))
    return [some for many in range(len(ties) + 1) for some in combinations(ties, many)]
