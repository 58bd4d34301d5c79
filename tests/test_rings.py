"""Parts, rank, rings and cuts of a set of ties [5]."""

import unittest
from itertools import combinations

from samples import GREAT_WEBS, many_webs, sets_of
from tietable.rings import is_cut, is_ring, parts, rank


def reached(web, some, start):
    """All points one comes to from a point over some ties."""
    found = {start}
    waiting = [start]
    while waiting:
        point = waiting.pop()
        for tie in some:
            a, b = web[1][tie]
            for here, there in ((a, b), (b, a)):
                if here == point and there not in found:
                    found.add(there)
                    waiting.append(there)
    return tuple(sorted(found))


def parts_walked(web, some):
    return sorted({reached(web, some, point) for point in range(web[0])})


def is_ring_walked(web, some):
    """One walks round: all its ties hang together, each of its points is met twice."""
    met = [point for tie in some for point in web[1][tie]]
    if not met or any(met.count(point) != 2 for point in met):
        return False
    return set(reached(web, some, met[0])) == set(met)


def hang_together(web, points):
    within = [tie for tie, ends in enumerate(web[1]) if set(ends) <= set(points)]
    return reached(web, within, points[0]) == points


def cuts_by_sides(web):
    """All ties between two sides of a part of the points, each of which hangs together."""
    told = set()
    for part in parts_walked(web, range(len(web[1]))):
        for many in range(1, len(part)):
            for side in combinations(part, many):
                rest = tuple(point for point in part if point not in side)
                if hang_together(web, side) and hang_together(web, rest):
                    told.add(tuple(tie for tie, (a, b) in enumerate(web[1]) if (a in side) != (b in side)))
    return told


class Parts(unittest.TestCase):
    WEB = (5, ((1, 4), (0, 3), (3, 3), (1, 4), (0, 2), (2, 3)))

    def test_of_some_ties(self):
        self.assertEqual(parts(self.WEB, ()), [(0,), (1,), (2,), (3,), (4,)])
        self.assertEqual(parts(self.WEB, (0,)), [(0,), (1, 4), (2,), (3,)])
        self.assertEqual(parts(self.WEB, (0, 1)), [(0, 3), (1, 4), (2,)])
        self.assertEqual(parts(self.WEB, (2,)), [(0,), (1,), (2,), (3,), (4,)])
        self.assertEqual(parts(self.WEB, (0, 1, 2, 3, 4, 5)), [(0, 2, 3), (1, 4)])
        self.assertEqual(parts((1, ()), ()), [(0,)])

    def test_of_a_long_way_whatever_the_order_of_its_ties(self):
        for ties in (((0, 1), (1, 2), (2, 3), (3, 4), (4, 5)), ((4, 5), (3, 4), (2, 3), (1, 2), (0, 1)),
                     ((0, 1), (4, 5), (2, 3), (3, 4), (1, 2))):
            self.assertEqual(parts((6, ties), (0, 1, 2, 3, 4)), [(0, 1, 2, 3, 4, 5)])

    def test_many_sets_of_many_webs(self):
        for web in many_webs():
            for some in sets_of(web):
                self.assertEqual(parts(web, some), parts_walked(web, some), (web, some))

    def test_the_kind_of_what_is_told(self):
        for web in GREAT_WEBS:
            for some in sets_of(web):
                told = parts(web, some)
                self.assertIs(type(told), list)
                for part in told:
                    self.assertIs(type(part), tuple)
                    self.assertTrue(all(type(point) is int for point in part))

    def test_by_the_names_of_the_parameters(self):
        self.assertEqual(parts(some=(0, 1), web=self.WEB), [(0, 3), (1, 4), (2,)])


class Rank(unittest.TestCase):
    def test_of_some_ties(self):
        web = (4, ((0, 1), (0, 1), (2, 2), (1, 3)))
        self.assertEqual(rank(web, ()), 0)
        self.assertEqual(rank(web, (0,)), 1)
        self.assertEqual(rank(web, (2,)), 0)
        self.assertEqual(rank(web, (0, 1)), 1)
        self.assertEqual(rank(web, (0, 1, 2, 3)), 2)

    def test_many_sets_of_many_webs(self):
        for web in many_webs():
            for some in sets_of(web):
                told = rank(web, some)
                self.assertEqual(told, web[0] - len(parts_walked(web, some)), (web, some))
                self.assertIs(type(told), int)

    def test_by_the_names_of_the_parameters(self):
        self.assertEqual(rank(some=(0, 1), web=(3, ((0, 1), (1, 2)))), 2)


class Rings(unittest.TestCase):
    def test_the_empty_set_is_none(self):
        for web in many_webs():
            self.assertIs(is_ring(web, ()), False)

    def test_a_loop_alone_is_one(self):
        web = (2, ((1, 1), (0, 1), (1, 1)))
        self.assertIs(is_ring(web, (0,)), True)
        self.assertIs(is_ring(web, (2,)), True)
        self.assertIs(is_ring(web, (0, 2)), False)
        self.assertIs(is_ring(web, (0, 1)), False)
        self.assertIs(is_ring(web, (1,)), False)

    def test_two_ties_between_the_same_points_are_one(self):
        web = (3, ((0, 2), (0, 2), (0, 2), (0, 1)))
        for pair in ((0, 1), (0, 2), (1, 2)):
            self.assertIs(is_ring(web, pair), True)
        self.assertIs(is_ring(web, (0, 1, 2)), False)
        self.assertIs(is_ring(web, (0, 3)), False)

    def test_a_triangle_is_one_with_nothing_more(self):
        web = (4, ((0, 1), (1, 2), (0, 2), (2, 3)))
        self.assertIs(is_ring(web, (0, 1, 2)), True)
        self.assertIs(is_ring(web, (0, 1)), False)
        self.assertIs(is_ring(web, (0, 1, 2, 3)), False)

    def test_two_rings_apart_or_that_meet_at_a_point_are_none(self):
        apart = (6, ((0, 1), (1, 2), (0, 2), (3, 4), (4, 5), (3, 5)))
        self.assertIs(is_ring(apart, (0, 1, 2)), True)
        self.assertIs(is_ring(apart, (3, 4, 5)), True)
        self.assertIs(is_ring(apart, (0, 1, 2, 3, 4, 5)), False)
        meeting = (5, ((0, 1), (1, 2), (0, 2), (2, 3), (3, 4), (2, 4)))
        self.assertIs(is_ring(meeting, (0, 1, 2, 3, 4, 5)), False)

    def test_many_sets_of_many_webs(self):
        for web in many_webs():
            for some in sets_of(web):
                self.assertIs(is_ring(web, some), is_ring_walked(web, some), (web, some))

    def test_by_the_names_of_the_parameters(self):
        self.assertIs(is_ring(some=(0,), web=(1, ((0, 0),))), True)


class Cuts(unittest.TestCase):
    def test_the_empty_set_is_none(self):
        for web in many_webs():
            self.assertIs(is_cut(web, ()), False)

    def test_a_loop_is_in_none(self):
        web = (2, ((1, 1), (0, 1)))
        self.assertIs(is_cut(web, (0,)), False)
        self.assertIs(is_cut(web, (0, 1)), False)

    def test_a_tie_that_is_one_by_itself(self):
        web = (4, ((0, 1), (1, 2), (0, 2), (2, 3)))
        self.assertIs(is_cut(web, (3,)), True)
        self.assertIs(is_cut(web, (0,)), False)
        self.assertIs(is_cut(web, (0, 3)), False)
        self.assertIs(is_cut(web, (0, 1)), True)
        self.assertIs(is_cut(web, (0, 1, 2)), False)

    def test_two_ties_between_the_same_points(self):
        web = (2, ((0, 1), (0, 1)))
        self.assertIs(is_cut(web, (0,)), False)
        self.assertIs(is_cut(web, (0, 1)), True)

    def test_two_cuts_at_once_are_none(self):
        web = (4, ((0, 1), (2, 3)))
        self.assertIs(is_cut(web, (0,)), True)
        self.assertIs(is_cut(web, (1,)), True)
        self.assertIs(is_cut(web, (0, 1)), False)

    def test_many_sets_of_many_webs(self):
        for web in many_webs():
            cuts = cuts_by_sides(web)
            for some in sets_of(web):
                self.assertIs(is_cut(web, some), some in cuts, (web, some))

    def test_by_the_names_of_the_parameters(self):
        self.assertIs(is_cut(some=(0,), web=(2, ((0, 1),))), True)


class RingsAndCuts(unittest.TestCase):
    def test_none_meet_in_one_tie_alone(self):
        for web in GREAT_WEBS:
            sets = sets_of(web)
            rings = [set(some) for some in sets if is_ring(web, some)]
            cuts = [set(some) for some in sets if is_cut(web, some)]
            for ring in rings:
                self.assertFalse([cut for cut in cuts if len(ring & cut) == 1])


if __name__ == "__main__":
    unittest.main()
