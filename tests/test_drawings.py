"""Turns [24], faces [25], the floor and the turned web [3, 26]."""

import unittest
from itertools import permutations, product

from samples import GREAT_WEBS, many_webs, parts_count, reckoned_webs, sets_of
from tietable.apart import table_of
from tietable.drawings import faces, on_floor, turned_web
from tietable.errors import Apart, NoFloor, NoTurns
from tietable.rings import is_cut, is_ring
from tietable.tables import exchanged
from tietable.webs import web_of

TRIANGLE = (3, ((0, 1), (1, 2), (0, 2)))
TRIANGLE_TURNS = (((0, 0), (2, 0)), ((0, 1), (1, 0)), ((1, 1), (2, 1)))
LOOP = (1, ((0, 0),))
TWO_LOOPS = (1, ((0, 0), (0, 0)))
CROSSED = (((0, 0), (1, 0), (0, 1), (1, 1)),)
APART = [(2, ()), (6, ()), (3, ((0, 1),)), (4, ((0, 1), (2, 3))), (2, ((0, 0), (1, 1)))]
HUGE = 9999999999


def ends_of(web, point):
    return [(tie, side) for tie, ends in enumerate(web[1]) for side in (0, 1) if ends[side] == point]


def hangs_together(web):
    return parts_count(web, range(len(web[1]))) == 1


def all_turns(web):
    """Each point's ends in each order round it, the least one always first."""
    rows = []
    for point in range(web[0]):
        ends = ends_of(web, point)
        rows.append([tuple(ends[:1]) + rest for rest in permutations(ends[1:])])
    return product(*rows)


def some_turns(web, most):
    """Turns spread over all there are, the same ones each time; those by the numbers of the ends first."""
    rows = [ends_of(web, point) for point in range(web[0])]
    told = [tuple(tuple(row) for row in rows)]
    for number in range(1, most):
        told.append(tuple(tuple(sorted(row, key=lambda end: pow(2 * end[0] + end[1] + 2, number + 2, 1013)))
                          for row in rows))
    return sorted(set(told))


def faces_by_hand(web, turns):
    follows = {row[place - 1]: row[place] for row in turns for place in range(len(row))}
    found = set()
    for start in follows:
        face = [start]
        while True:
            tie, side = face[-1]
            behind = follows[tie, 1 - side]
            if behind == start:
                break
            face.append(behind)
        least = face.index(min(face))
        found.add(tuple(face[least:] + face[:least]))
    return sorted(found) or [()]


WEBS = [web for web in many_webs()[::3] + reckoned_webs(150) if hangs_together(web)] + GREAT_WEBS[:4]
DRAWN = [(web, turns) for web in WEBS if hangs_together(web) for turns in some_turns(web, 9)]


class Faces(unittest.TestCase):
    def test_of_a_triangle(self):
        self.assertEqual(faces(TRIANGLE, TRIANGLE_TURNS),
                         [((0, 0), (1, 0), (2, 1)), ((0, 1), (2, 0), (1, 1))])

    def test_of_a_web_without_ties(self):
        self.assertEqual(faces((1, ()), ((),)), [()])
        self.assertIs(on_floor((1, ()), ((),)), True)
        self.assertEqual(turned_web((1, ()), ((),)), (1, ()))

    def test_of_loops(self):
        self.assertEqual(faces(LOOP, (((0, 0), (0, 1)),)), [((0, 0),), ((0, 1),)])
        self.assertEqual(faces(LOOP, (((0, 1), (0, 0)),)), [((0, 0),), ((0, 1),)])
        self.assertEqual(faces(TWO_LOOPS, CROSSED), [((0, 0), (1, 1), (0, 1), (1, 0))])
        self.assertEqual(faces(TWO_LOOPS, (((0, 0), (0, 1), (1, 0), (1, 1)),)),
                         [((0, 0), (1, 0)), ((0, 1),), ((1, 1),)])

    def test_of_a_tie_alone_and_of_two_between_the_same_points(self):
        self.assertEqual(faces((2, ((0, 1),)), (((0, 0),), ((0, 1),))), [((0, 0), (0, 1))])
        self.assertEqual(faces((2, ((0, 1), (0, 1))), (((0, 0), (1, 0)), ((0, 1), (1, 1)))),
                         [((0, 0), (1, 1)), ((0, 1), (1, 0))])

    def test_many_drawings(self):
        for web, turns in DRAWN:
            told = faces(web, turns)
            self.assertEqual(told, faces_by_hand(web, turns), (web, turns))
            self.assertIs(type(told), list)
            self.assertTrue(all(type(face) is tuple and all(type(end) is tuple for end in face) for face in told))
            ends = [end for face in told for end in face]
            self.assertEqual(sorted(ends), [(tie, side) for tie in range(len(web[1])) for side in (0, 1)])

    def test_with_which_end_a_point_begins_makes_no_difference(self):
        for web, turns in DRAWN[::10]:
            shifted = tuple(row[1:] + row[:1] for row in turns)
            self.assertEqual(faces(web, shifted), faces(web, turns))

    def test_what_is_told_is_a_new_list(self):
        for web, turns in [(TRIANGLE, TRIANGLE_TURNS), ((1, ()), ((),))]:
            first = faces(web, turns)
            before = list(first)
            first.append(((9, 9),))
            first[0] = ()
            self.assertEqual(faces(web, turns), before)

    def test_by_the_names_of_the_parameters(self):
        self.assertEqual(faces(turns=((),), web=(1, ())), [()])
        self.assertIs(on_floor(turns=((),), web=(1, ())), True)
        self.assertEqual(turned_web(turns=((),), web=(1, ())), (1, ()))


class TheFloor(unittest.TestCase):
    def test_drawings_that_are_on_one_and_that_are_not(self):
        self.assertIs(on_floor(TRIANGLE, TRIANGLE_TURNS), True)
        self.assertIs(on_floor(TWO_LOOPS, CROSSED), False)
        self.assertIs(on_floor(TWO_LOOPS, (((0, 0), (0, 1), (1, 1), (1, 0)),)), True)
        self.assertRaises(NoFloor, turned_web, TWO_LOOPS, CROSSED)

    def test_four_points_each_with_each(self):
        floors = [turns for turns in all_turns(GREAT_WEBS[0]) if on_floor(GREAT_WEBS[0], turns)]
        # Of the 16 drawings just one and its mirror are on a floor.
        self.assertEqual(len(floors), 2)
        for turns in floors:
            self.assertEqual(len(faces(GREAT_WEBS[0], turns)), 4)

    def test_a_hexagon_with_its_long_ties_never_is(self):
        for turns in all_turns(GREAT_WEBS[1]):
            self.assertIs(on_floor(GREAT_WEBS[1], turns), False)
            self.assertRaises(NoFloor, turned_web, GREAT_WEBS[1], turns)

    def test_many_drawings(self):
        seen = set()
        for web, turns in DRAWN:
            due = web[0] - len(web[1]) + len(faces_by_hand(web, turns)) == 2
            self.assertIs(on_floor(web, turns), due)
            seen.add(due)
        self.assertEqual(seen, {True, False})


class TurnedAbout(unittest.TestCase):
    def test_a_triangle(self):
        self.assertEqual(turned_web(TRIANGLE, TRIANGLE_TURNS), (2, ((0, 1),) * 3))

    def test_a_tie_alone_becomes_a_loop_and_a_loop_a_tie(self):
        self.assertEqual(turned_web((2, ((0, 1),)), (((0, 0),), ((0, 1),))), (1, ((0, 0),)))
        self.assertEqual(turned_web(LOOP, (((0, 1), (0, 0)),)), (2, ((0, 1),)))

    def test_the_lesser_point_comes_first(self):
        web = (1, ((0, 0), (0, 0)))
        self.assertEqual(turned_web(web, (((0, 0), (0, 1), (1, 0), (1, 1)),)), (3, ((0, 1), (0, 2))))
        self.assertEqual(turned_web(web, (((0, 1), (0, 0), (1, 0), (1, 1)),)), (3, ((0, 1), (1, 2))))
        # The face of (1, 0) is the last one, that of (1, 1) the first one.
        self.assertEqual(turned_web(web, (((0, 0), (0, 1), (1, 1), (1, 0)),)), (3, ((0, 1), (0, 2))))

    def test_six_points_and_seven(self):
        for many in range(1, 10):
            web = (1, ((0, 0),) * many)
            turns = (tuple((tie, side) for tie in range(many) for side in (0, 1)),)
            self.assertIs(on_floor(web, turns), True)
            if many < 6:
                self.assertEqual(turned_web(web, turns), (many + 1, tuple((0, tie + 1) for tie in range(many))))
            else:
                self.assertRaises(NoFloor, turned_web, web, turns)

    def test_many_drawings(self):
        turned = 0
        for web, turns in DRAWN:
            rows = faces_by_hand(web, turns)
            if not on_floor(web, turns) or len(rows) > 6:
                self.assertRaises(NoFloor, turned_web, web, turns)
                continue
            turned += 1
            place = {end: number for number, row in enumerate(rows) for end in row}
            due = tuple(tuple(sorted((place[tie, 0], place[tie, 1]))) for tie in range(len(web[1])))
            told = turned_web(web, turns)
            self.assertEqual(told, (len(rows), due))
            self.assertEqual(web_of(told[0], list(told[1])), told)
            self.assertEqual(table_of(told), exchanged(table_of(web)))
        self.assertGreater(turned, 100)

    def test_a_ring_of_the_one_is_a_cut_of_the_other(self):
        for web, turns in DRAWN[::7]:
            if on_floor(web, turns) and len(faces(web, turns)) <= 6:
                told = turned_web(web, turns)
                for some in sets_of(web):
                    self.assertEqual(is_ring(web, some), is_cut(told, some))
                    self.assertEqual(is_cut(web, some), is_ring(told, some))


class Refused(unittest.TestCase):
    NO_TURNS = [
        (),
        ((),),
        ((), (), ()),
        TRIANGLE_TURNS[:2],
        TRIANGLE_TURNS + ((),),
        TRIANGLE_TURNS[1:] + TRIANGLE_TURNS[:1],
        (((0, 0),), ((0, 1), (1, 0)), ((1, 1), (2, 1))),
        (((0, 0), (2, 0), (0, 0)), ((0, 1), (1, 0)), ((1, 1), (2, 1))),
        (((0, 0), (0, 0)), ((0, 1), (1, 0)), ((1, 1), (2, 1))),
        (((0, 1), (2, 0)), ((0, 0), (1, 0)), ((1, 1), (2, 1))),
        (((0, 0), (2, 0)), ((0, 1), (1, 0)), ((1, 1), (2, 2))),
        (((0, 0), (2, 0)), ((0, 1), (1, 0)), ((1, 1), (3, 1))),
        (((0, 0), (2, 0)), ((0, 1), (1, 0)), ((1, 1), (-1, 1))),
        (((0, 0), (2, 0)), ((0, 1), (1, 0)), ((1, 1), (HUGE, 1))),
        (((0, 0), (2, 0)), ((0, 1), (1, 0)), ((1, 1), (2,))),
        (((0, 0), (2, 0)), ((0, 1), (1, 0)), ((1, 1), ())),
        (((0, 0), (2, 0)), ((0, 1), (1, 0)), ((1, 1), (2, 1, 0))),
        (((0, 0), (2, 0)), ((0, 1), (1, 0)), ((1, 1), (2, 1), (3, 0))),
    ]

    def test_what_are_no_turns(self):
        for turns in self.NO_TURNS:
            for ask in (faces, on_floor, turned_web):
                self.assertRaises(NoTurns, ask, TRIANGLE, turns)
        for turns in ((), (((0, 0),),), (((0, 1),),), (((0, 0), (0, 0)),), (((0, 0), (0, 1), (1, 0)),), ((), ())):
            for ask in (faces, on_floor, turned_web):
                self.assertRaises(NoTurns, ask, LOOP, turns)
        for turns in ((), ((), ()), (((0, 0),),)):
            for ask in (faces, on_floor, turned_web):
                self.assertRaises(NoTurns, ask, (1, ()), turns)

    def test_a_web_that_does_not_hang_together(self):
        for web in APART:
            turns = tuple(tuple(ends_of(web, point)) for point in range(web[0]))
            for ask in (faces, on_floor, turned_web):
                self.assertRaises(Apart, ask, web, turns)

    def test_it_is_refused_ahead_of_its_turns(self):
        for web in APART:
            for turns in self.NO_TURNS:
                for ask in (faces, on_floor, turned_web):
                    self.assertRaises(Apart, ask, web, turns)

    def test_turns_are_refused_ahead_of_the_floor(self):
        seven = (1, ((0, 0),) * 7)
        self.assertRaises(NoTurns, turned_web, seven, (((0, 0),),))
        self.assertRaises(NoTurns, turned_web, TWO_LOOPS, (((0, 0), (1, 0), (0, 1), (1, 1), (2, 0)),))


if __name__ == "__main__":
    unittest.main()
