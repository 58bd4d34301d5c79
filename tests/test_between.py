"""Moves from one web to another, or a ring of just one of both [3, 28]."""

import unittest
from itertools import permutations, product

from samples import GREAT_WEBS, reckoned_webs, sets_of, small_webs
from tietable.between import moves_between
from tietable.errors import NoMatch, NoMove
from tietable.moves import moved
from tietable.rings import is_ring


def rings_of(web):
    return tuple(some for some in sets_of(web) if is_ring(web, some))


def five_ring(order, more=()):
    """A ring of five ties, in an order; then ties beside some of them."""
    ties = [None] * 5
    for place, tie in enumerate(order):
        ties[tie] = tuple(sorted((place, (place + 1) % 5)))
    return (5, tuple(ties) + tuple(ties[tie] for tie in more))


def trees(points):
    """All trees on so many points, with their ties in all orders."""
    told = set()
    for ends in product(range(points), repeat=points - 1):
        ties = tuple(tuple(sorted((point + 1, end))) for point, end in enumerate(ends))
        web = (points, ties)
        if all(end <= point for point, end in enumerate(ends)) and not rings_of(web):
            told.update((points, row) for row in permutations(ties))
    return sorted(told)


def walked_away(web, seed, steps=5, most=5):
    """A web to which moves lead, the same one each time; its points are renumbered last."""
    for step in range(steps):
        numbers = [(one, other) for one in range(web[0]) for other in range(one + 1, web[0])]
        tries = [("join",) + pair for pair in numbers]
        tries += [("twist",) + pair + (some,) for pair in numbers for some in sets_of(web)[1:-1]]
        if web[0] < most:
            tries += [("split", point, some) for point in range(web[0]) for some in sets_of(web)]
        kind = ("join", "twist", "split")[(seed + step * step) % 3]
        tries = sorted((move for move in tries if move[0] == kind),
                       key=lambda move: (hash_of(move, seed + step), move))
        for move in tries:
            try:
                web = moved(web, move)
            except NoMove:
                continue
            break
    shift = seed % web[0]
    return (web[0], tuple(tuple(sorted(((a + shift) % web[0], (b + shift) % web[0]))) for a, b in web[1]))


def hash_of(move, seed):
    number = seed + 7
    for part in move[1:]:
        for figure in part if isinstance(part, tuple) else (part,):
            number = (number * 31 + figure + 3) % 10007
    return number


class Between(unittest.TestCase):
    def assert_told(self, one, other):
        """What is told is so; answered is its kind and the number of moves."""
        told = moves_between(one, other)
        self.assertIs(type(told), tuple)
        if told[0] == "ring":
            self.assertEqual(len(told), 2)
            self.assertIs(type(told[1]), tuple)
            self.assertIn(told[1], sets_of(one))
            self.assertNotEqual(is_ring(one, told[1]), is_ring(other, told[1]), (one, other, told))
            return "ring", None
        self.assertEqual((told[0], len(told)), ("moves", 3))
        moves, names = told[1:]
        self.assertEqual((type(moves), type(names)), (list, list))
        web = one
        for move in moves:
            self.assertIs(type(move), tuple)
            web = moved(web, move)
        self.assertEqual(len(names), web[0])
        self.assertEqual(sorted(names), list(range(other[0])), (one, other, told))
        named = tuple(tuple(sorted((names[a], names[b]))) for a, b in web[1])
        self.assertEqual(named, other[1], (one, other, told))
        return "moves", len(moves)

    def assert_both_ways(self, one, other, kind):
        self.assertEqual(self.assert_told(one, other)[0], kind, (one, other))
        self.assertEqual(self.assert_told(other, one)[0], kind, (other, one))


class Moves(Between):
    def test_a_web_to_itself_and_to_itself_renumbered_takes_none(self):
        for web in small_webs()[::5] + reckoned_webs(40, points=5, ties=6):
            self.assertEqual(self.assert_told(web, web), ("moves", 0))
            turned = (web[0], tuple((web[0] - 1 - b, web[0] - 1 - a) for a, b in web[1]))
            self.assertEqual(self.assert_told(web, turned), ("moves", 0))

    def test_webs_without_ties(self):
        for one in range(1, 6):
            for other in range(1, 6):
                self.assert_both_ways((one, ()), (other, ()), "moves")

    def test_loops_anywhere(self):
        webs = [(points, tuple((p, p) for p in row)) for points in range(1, 6)
                for row in list(product(range(points), repeat=3))[::7]]
        for one in webs[::3]:
            for other in webs:
                self.assert_both_ways(one, other, "moves")
        self.assert_both_ways((1, ((0, 0),) * 6), (5, ((0, 0), (1, 1), (2, 2), (3, 3), (4, 4), (4, 4))), "moves")

    def test_ties_that_make_no_ring(self):
        webs = trees(5)
        self.assertGreater(len(webs), 200)
        for number, one in enumerate(webs[::17]):
            for other in webs[number % 7::29]:
                self.assert_both_ways(one, other, "moves")
        self.assert_both_ways((5, ((0, 1), (2, 3))), (3, ((0, 1), (1, 2))), "moves")

    def test_a_ring_in_any_order(self):
        for order in permutations(range(5)):
            self.assert_both_ways(five_ring(range(5)), five_ring(order), "moves")
        for more in range(5):
            for order in list(permutations(range(5)))[::7]:
                self.assert_both_ways(five_ring(range(5), (more,)), five_ring(order, (more,)), "moves")

    def test_a_ring_with_something_hanging_on_it(self):
        ring = [(0, 1), (1, 2), (2, 3), (0, 3)]
        for hanging in [((0, 0), (2, 2)), ((1, 1), (3, 3)), ((0, 0), (1, 1)), ((0, 4), (3, 3)),
                        ((0, 0), (1, 1), (2, 2), (3, 3))]:
            one = (5, tuple(ring) + hanging)
            for order in permutations(ring):
                self.assert_both_ways(one, (5, order + hanging), "moves")

    def test_two_rings_that_share_two_points(self):
        one = (4, ((0, 1), (1, 2), (0, 3), (2, 3), (0, 2)))
        for other in [(4, ((1, 2), (0, 1), (0, 3), (2, 3), (0, 2))), (4, ((0, 1), (1, 2), (2, 3), (0, 3), (0, 2))),
                      (4, ((2, 3), (1, 3), (0, 1), (0, 2), (1, 2))), (5, ((1, 2), (0, 1), (0, 3), (2, 3), (0, 2)))]:
            self.assert_both_ways(one, other, "moves")

    def test_rings_that_meet_hang_or_lie_apart(self):
        apart = (5, ((0, 1), (0, 1), (2, 3), (2, 3), (4, 4)))
        met = (3, ((0, 1), (0, 1), (1, 2), (1, 2), (0, 0)))
        other = (3, ((0, 1), (0, 1), (0, 2), (0, 2), (2, 2)))
        for one in (apart, met, other):
            for two in (apart, met, other):
                self.assert_both_ways(one, two, "moves")

    def test_many_lone_points_in_the_place_of_many_parts(self):
        one = (5, ((0, 1), (0, 0), (1, 1), (0, 0)))
        other = (5, ((0, 1), (2, 2), (3, 3), (4, 4)))
        self.assert_both_ways(one, other, "moves")

    def test_webs_to_which_moves_lead(self):
        many = []
        for number, web in enumerate(reckoned_webs(60, points=5, ties=6, seed=5)):
            for seed in (number, number + 17):
                other = walked_away(web, seed)
                many.append(self.assert_told(web, other)[1])
                self.assert_both_ways(web, other, "moves")
        self.assertGreater(max(many), 2)

    def test_greater_webs_too(self):
        for number, web in enumerate(reckoned_webs(12, points=6, ties=8, seed=3)):
            self.assert_both_ways(web, walked_away(web, number, steps=3, most=6), "moves")


class Rings(Between):
    def test_a_ring_of_just_one_of_both(self):
        self.assert_both_ways((2, ((0, 1),)), (1, ((0, 0),)), "ring")
        self.assert_both_ways((3, ((0, 1), (1, 2), (0, 2))), (3, ((0, 1), (1, 2), (1, 2))), "ring")
        self.assertEqual(moves_between((2, ((0, 1),)), (2, ((1, 1),))), ("ring", (0,)))

    def test_the_same_table_but_other_rings(self):
        one = (2, ((0, 1), (0, 0)))
        other = (2, ((0, 0), (0, 1)))
        self.assert_both_ways(one, other, "ring")
        self.assert_both_ways(five_ring(range(5), (0,)), five_ring(range(5), (1,)), "ring")

    def test_just_where_the_rings_are_the_same_moves_lead(self):
        webs = small_webs()
        rings = {web: rings_of(web) for web in webs}
        kinds = set()
        for one in webs[::7]:
            for other in webs[::3]:
                if len(one[1]) == len(other[1]):
                    due = "moves" if rings[one] == rings[other] else "ring"
                    self.assertEqual(self.assert_told(one, other)[0], due, (one, other))
                    kinds.add(due)
        self.assertEqual(kinds, {"moves", "ring"})

    def test_webs_of_five_points_and_six_ties(self):
        webs = [web for web in reckoned_webs(900, points=5, ties=6, seed=9) if len(web[1]) == 6][:60]
        for one in webs[::4]:
            for other in webs:
                due = "moves" if rings_of(one) == rings_of(other) else "ring"
                self.assertEqual(self.assert_told(one, other)[0], due)


class Asked(Between):
    def test_webs_of_unlike_many_ties_are_refused(self):
        for one, other in [((1, ()), (1, ((0, 0),))), ((2, ((0, 1),)), (2, ((0, 1), (0, 1)))),
                           (GREAT_WEBS[1], GREAT_WEBS[0]), (GREAT_WEBS[6], (6, ())), (five_ring(range(5)), (5, ()))]:
            self.assertRaises(NoMatch, moves_between, one, other)
            self.assertRaises(NoMatch, moves_between, other, one)

    def test_the_same_is_told_each_time_in_new_lists(self):
        one, other = (5, ((0, 1), (1, 2), (2, 3), (3, 4))), (5, ((0, 1), (0, 2), (0, 3), (0, 4)))
        first = moves_between(one, other)
        before = first[0], list(first[1]), list(first[2])
        first[1].append(("join", 0, 1))
        first[1][0] = ()
        first[2].clear()
        self.assertEqual(moves_between(one, other), before)
        for web in reckoned_webs(10, points=5, ties=6):
            other = walked_away(web, 3)
            self.assertEqual(moves_between(web, other), moves_between(web, other))

    def test_by_the_names_of_the_parameters(self):
        self.assertEqual(moves_between(other=(1, ()), one=(1, ())), ("moves", [], [0]))


if __name__ == "__main__":
    unittest.main()
