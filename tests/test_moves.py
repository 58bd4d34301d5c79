"""Joins, twists and splits [27], and that they keep all rings [28]."""

import unittest

from samples import GREAT_WEBS, all_ties, many_webs, parts_count, reckoned_webs, sets_of, small_webs
from tietable.apart import table_of
from tietable.errors import NoMove
from tietable.moves import moved
from tietable.rings import is_ring
from tietable.webs import web_of

SQUARE = (4, ((0, 1), (1, 2), (2, 3), (0, 3)))
PATH = (3, ((0, 1), (1, 2)))
HUGE = 9999999999


def points_of(web, some):
    return {point for tie in some for point in web[1][tie]}


def meeting(web, some):
    """The points at which ties of the set and other ties meet."""
    others = [tie for tie in range(len(web[1])) if tie not in some]
    return points_of(web, some) & points_of(web, others)


def together(web, one, other):
    tied = (web[0], web[1] + ((one, other),))
    return parts_count(web, range(len(web[1]))) == parts_count(tied, range(len(tied[1])))


def is_move_by_hand(web, move):
    kind, numbers = move[0], move[1:]
    if kind == "join":
        return 0 <= numbers[0] < numbers[1] < web[0] and not together(web, numbers[0], numbers[1])
    if kind == "twist":
        return 0 <= numbers[0] < numbers[1] < web[0] and meeting(web, numbers[2]) <= set(numbers[:2])
    return 0 <= numbers[0] < web[0] < 6 and meeting(web, numbers[1]) <= {numbers[0]}


def moved_by_hand(web, move):
    points, ties = web
    kind = move[0]

    def named(point, tie):
        if kind == "join":
            row = [number for number in range(points) if number != move[2]]
            return row.index(move[1] if point == move[2] else point)
        if kind == "twist" and tie in move[3] and point in move[1:3]:
            return move[1] + move[2] - point
        if kind == "split" and tie in move[2] and point == move[1]:
            return points
        return point

    more = {"join": -1, "twist": 0, "split": 1}[kind]
    return points + more, tuple(tuple(sorted((named(a, tie), named(b, tie)))) for tie, (a, b) in enumerate(ties))


def moves_to_try(web):
    """Moves and what looks like them: points of the web and the numbers just beyond, all sets of ties."""
    numbers = range(-1, web[0] + 1)
    for one in numbers:
        for other in numbers:
            yield ("join", one, other)
            for some in sets_of(web):
                yield ("twist", one, other, some)
        for some in sets_of(web):
            yield ("split", one, some)


class Moving(unittest.TestCase):
    def assert_moved(self, web, move, points, ties):
        told = moved(web, move)
        self.assertEqual(told, (points, ties))
        self.assertIs(type(told), tuple)
        self.assertIs(type(told[1]), tuple)
        self.assertTrue(all(type(tie) is tuple for tie in told[1]))

    def assert_no_moves(self, web, moves):
        for move in moves:
            with self.assertRaises(NoMove, msg=(web, move)):
                moved(web, move)


class Joins(Moving):
    def test_two_points_of_unlike_parts_become_one(self):
        self.assert_moved((4, ((0, 1), (2, 3))), ("join", 1, 2), 3, ((0, 1), (1, 2)))
        self.assert_moved((4, ((0, 1), (2, 3))), ("join", 0, 3), 3, ((0, 1), (0, 2)))
        self.assert_moved((5, ((3, 4), (0, 2))), ("join", 2, 4), 4, ((2, 3), (0, 2)))
        self.assert_moved((2, ((0, 0), (1, 1))), ("join", 0, 1), 1, ((0, 0), (0, 0)))

    def test_points_without_ties(self):
        self.assert_moved((2, ()), ("join", 0, 1), 1, ())
        self.assert_moved((3, ((0, 2),)), ("join", 0, 1), 2, ((0, 1),))
        self.assert_moved((3, ((1, 2),)), ("join", 0, 2), 2, ((0, 1),))

    def test_what_is_no_join(self):
        self.assert_no_moves(PATH, [("join", 0, 1), ("join", 0, 2), ("join", 1, 2)])
        self.assert_no_moves((2, ()), [("join", 1, 0), ("join", 0, 0), ("join", 1, 1), ("join", 0, 2), ("join", -1, 0),
                                       ("join", -2, -1), ("join", 0, HUGE), ("join", -HUGE, 1), ("join", 2, 3)])


class Twists(Moving):
    def test_the_two_points_are_exchanged_at_the_ties(self):
        self.assert_moved(SQUARE, ("twist", 0, 2, (0, 1)), 4, ((1, 2), (0, 1), (2, 3), (0, 3)))
        self.assert_moved(SQUARE, ("twist", 1, 3, (0, 3)), 4, ((0, 3), (1, 2), (2, 3), (0, 1)))
        self.assert_moved(PATH, ("twist", 0, 1, (0,)), 3, ((0, 1), (1, 2)))
        self.assert_moved(PATH, ("twist", 0, 1, (1,)), 3, ((0, 1), (0, 2)))

    def test_no_ties_all_ties_and_loops(self):
        self.assert_moved(SQUARE, ("twist", 0, 1, ()), 4, SQUARE[1])
        self.assert_moved(SQUARE, ("twist", 0, 1, (0, 1, 2, 3)), 4, ((0, 1), (0, 2), (2, 3), (1, 3)))
        self.assert_moved((3, ((0, 0), (1, 2))), ("twist", 0, 2, (0,)), 3, ((2, 2), (1, 2)))
        self.assert_moved((3, ((0, 0), (1, 2))), ("twist", 0, 1, (0,)), 3, ((1, 1), (1, 2)))
        self.assert_moved((2, ()), ("twist", 0, 1, ()), 2, ())

    def test_twice_the_same_one_leads_back(self):
        for web in many_webs()[::40] + GREAT_WEBS[3:5]:
            for move in moves_to_try(web):
                if move[0] == "twist" and is_move_by_hand(web, move):
                    self.assertEqual(moved(moved(web, move), move), web)

    def test_what_is_no_twist(self):
        self.assert_no_moves(SQUARE, [
            ("twist", 0, 2, (0,)), ("twist", 0, 2, (0, 2)), ("twist", 0, 1, (0, 1)), ("twist", 2, 0, (0, 1)),
            ("twist", 0, 0, ()), ("twist", 1, 0, ()), ("twist", 0, 4, ()), ("twist", -1, 0, ()), ("twist", -2, -1, ()),
            ("twist", 4, 5, (0, 1, 2, 3)), ("twist", 0, HUGE, ()), ("twist", -HUGE, 0, ())])


class Splits(Moving):
    def test_at_the_ties_the_point_is_a_new_one_behind_all_others(self):
        self.assert_moved(PATH, ("split", 1, (0,)), 4, ((0, 3), (1, 2)))
        self.assert_moved(PATH, ("split", 1, (1,)), 4, ((0, 1), (2, 3)))
        self.assert_moved((2, ((0, 0), (0, 1), (0, 0))), ("split", 0, (0, 2)), 3, ((2, 2), (0, 1), (2, 2)))

    def test_no_ties_and_all_ties(self):
        self.assert_moved(PATH, ("split", 0, ()), 4, PATH[1])
        self.assert_moved(PATH, ("split", 0, (0, 1)), 4, ((1, 3), (1, 2)))
        self.assert_moved((1, ()), ("split", 0, ()), 2, ())
        self.assert_moved((3, ((0, 1),)), ("split", 2, (0,)), 4, ((0, 1),))

    def test_a_sixth_point_and_a_seventh(self):
        self.assert_moved((5, ((0, 1), (1, 2))), ("split", 1, (1,)), 6, ((0, 1), (2, 5)))
        self.assert_no_moves((6, ((0, 1), (1, 2))), [("split", 1, (1,)), ("split", 0, ()), ("split", 5, (0, 1))])

    def test_what_is_no_split(self):
        self.assert_no_moves(SQUARE, [("split", 0, (0,)), ("split", 0, (0, 1)), ("split", 0, (0, 3)), ("split", 4, ()),
                                      ("split", -1, ()), ("split", HUGE, ()), ("split", -HUGE, (0, 1, 2, 3))])
        self.assert_no_moves(PATH, [("split", 0, (0,)), ("split", 2, (0,)), ("split", 0, (1,))])


class AllOfThem(Moving):
    def test_by_hand(self):
        seen = {}
        for web in small_webs()[::9] + many_webs()[::60] + reckoned_webs(12, ties=6):
            for move in moves_to_try(web):
                due = is_move_by_hand(web, move)
                seen[move[0], due] = seen.get((move[0], due), 0) + 1
                if due:
                    told = moved(web, move)
                    self.assertEqual(told, moved_by_hand(web, move), (web, move))
                    self.assertEqual(web_of(told[0], list(told[1])), told)
                else:
                    self.assert_no_moves(web, [move])
        self.assertEqual(len(seen), 6)

    def test_moves_keep_all_rings_and_the_table(self):
        for web in small_webs()[::23] + many_webs()[::90] + reckoned_webs(6, ties=5):
            rings = [some for some in sets_of(web) if is_ring(web, some)]
            for move in moves_to_try(web):
                if is_move_by_hand(web, move):
                    told = moved(web, move)
                    self.assertEqual([some for some in sets_of(told) if is_ring(told, some)], rings, (web, move))
                    self.assertEqual(table_of(told), table_of(web))

    def test_what_is_none_by_its_name_its_length_or_its_set(self):
        for web in [(1, ()), (2, ()), PATH, SQUARE, (6, tuple(all_ties(6)[:9]))]:
            self.assert_no_moves(web, [
                (), ("join",), ("join", 0), ("join", 0, 1, 2), ("join", 0, 1, ()), ("twist",), ("twist", 0, 1),
                ("twist", 0, 1, (), ()), ("twist", 0, ()), ("split",), ("split", 0), ("split", 0, 1, ()),
                ("split", 0, (), ()), ("move", 0, 1), ("Join", 0, 1), ("JOIN", 0, 1), ("", 0, 1), ("joins", 0, 1),
                ("turn", 0, 1, ()), ("cut", 0, ()), ("split ", 0, ()), ("twist", 0, 1, (-1,)), ("split", 0, (9,)),
                ("split", 0, (HUGE,)), ("twist", 0, 1, (9,))])

    def test_by_the_names_of_the_parameters(self):
        self.assertEqual(moved(move=("split", 0, ()), web=(1, ())), (2, ()))


if __name__ == "__main__":
    unittest.main()
