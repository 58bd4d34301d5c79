"""Webs and sets of ties that several test files walk through."""

from itertools import combinations, combinations_with_replacement, permutations, product
from math import comb

# Four points each with each, a hexagon with its three long ties, a prism, and webs with
# loops, ties between the same two points, lone points and bridges.
GREAT_WEBS = [
    (4, ((0, 1), (0, 2), (0, 3), (1, 2), (1, 3), (2, 3))),
    (6, ((0, 1), (1, 2), (2, 3), (3, 4), (4, 5), (0, 5), (0, 3), (1, 4), (2, 5))),
    (6, ((0, 1), (1, 2), (0, 2), (3, 4), (4, 5), (3, 5), (0, 3), (1, 4), (2, 5))),
    (5, ((0, 4), (0, 4), (4, 4), (1, 3), (1, 3), (1, 3), (3, 3), (0, 0), (2, 2))),
    (6, ((0, 5), (4, 5), (3, 4), (3, 5), (1, 2), (1, 1), (1, 2), (2, 4), (0, 0))),
    (6, ((0, 1), (1, 2), (2, 3), (3, 4), (4, 5))),
    (1, tuple([(0, 0)] * 9)),
    (2, tuple([(0, 1)] * 9)),
    (6, ()),
]


def all_ties(points):
    return list(combinations_with_replacement(range(points), 2))


def small_webs():
    """Every web of at most three points and three ties, in every order of the ties."""
    return [(points, ties)
            for points in (1, 2, 3)
            for many in range(4)
            for ties in product(all_ties(points), repeat=many)]


def middle_webs():
    """Every web of four points and four ties, but for the order of the ties."""
    return [(4, ties) for ties in combinations_with_replacement(all_ties(4), 4)]


def many_webs():
    return small_webs() + middle_webs() + GREAT_WEBS


def sets_of(web):
    ties = range(len(web[1]))
    return [some for many in range(len(ties) + 1) for some in combinations(ties, many)]


def reckoned_webs(many, points=6, ties=9, seed=1):
    """Webs of all sizes, the same ones each time: their numbers are reckoned, not drawn."""
    state = seed
    told = []
    for turn in range(many):
        numbers = []
        for step in range(2 * ties + 2):
            state = (state * 1103515245 + 12345) % 2 ** 31
            numbers.append(state // 2 ** 16)
        here = 1 + numbers[0] % points
        ends = [tuple(sorted((numbers[2 + 2 * k] % here, numbers[3 + 2 * k] % here))) for k in range(ties)]
        told.append((here, tuple(ends[:numbers[1] % (ties + 1)])))
    return told


def parts_count(web, some):
    """How many parts the points have, by painting each part from its least point on."""
    colour = list(range(web[0]))
    for _ in range(web[0]):
        for tie in some:
            a, b = web[1][tie]
            colour[a] = colour[b] = min(colour[a], colour[b])
    return len(set(colour))


def power_of_less_one(often):
    """(x - 1) taken so often: the numbers with x taken 0 times, 1 time and so on."""
    return [comb(often, k) * (-1) ** (often - k) for k in range(often + 1)]


def table_by_sets(web):
    """The table as the sum over all sets of ties."""
    points = web[0]
    full = points - parts_count(web, range(len(web[1])))
    sums = {}
    for some in sets_of(web):
        rank = points - parts_count(web, some)
        for i, times in enumerate(power_of_less_one(full - rank)):
            for j, more in enumerate(power_of_less_one(len(some) - rank)):
                sums[i, j] = sums.get((i, j), 0) + times * more
    return sorted((i, j, times) for (i, j), times in sums.items() if times)


def orders_of(web, most=24):
    """All orders of the ties where they are few, else some that are spread over all of them."""
    ties = list(range(len(web[1])))
    if len(ties) <= 4:
        return [list(order) for order in permutations(ties)]
    told = [ties, ties[::-1], ties[::2] + ties[1::2]]
    for seed in range(most - len(told)):
        told.append(sorted(ties, key=lambda tie: pow(tie + 2, seed + 3, 1013)))
    return told
