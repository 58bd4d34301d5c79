"""Colourings [16, 17], and that the table tells how many there are [3]."""

import unittest
from itertools import product

from samples import GREAT_WEBS, many_webs, parts_count, reckoned_webs
from tietable.apart import table_of
from tietable.colours import colouring, colours_count, fewest_colours
from tietable.tables import worth

WEBS = many_webs()[::5] + reckoned_webs(40, points=5) + GREAT_WEBS
HUGE = 9999999999


def is_colouring(web, many, row):
    return (len(row) == web[0] and all(0 <= colour < many for colour in row)
            and all(row[a] != row[b] for a, b in web[1]))


def count_by_hand(web, many):
    return sum(all(row[a] != row[b] for a, b in web[1]) for row in product(range(many), repeat=web[0]))


def has_loop(web):
    return any(a == b for a, b in web[1])


class HowMany(unittest.TestCase):
    def test_of_ordinary_webs(self):
        triangle = (3, ((0, 1), (1, 2), (0, 2)))
        self.assertEqual([colours_count(triangle, many) for many in range(6)], [0, 0, 0, 6, 24, 60])
        self.assertEqual(colours_count((3, ((0, 1), (1, 2))), 4), 36)

    def test_without_ties(self):
        for points in range(1, 7):
            for many in (0, 1, 2, 10, HUGE):
                self.assertEqual(colours_count((points, ()), many), many ** points)

    def test_with_a_loop_there_is_none(self):
        for web in WEBS:
            for many in (0, 1, 2, 3, 10, HUGE):
                if has_loop(web):
                    self.assertEqual(colours_count(web, many), 0)

    def test_no_colours_and_one_colour(self):
        for web in WEBS:
            self.assertEqual(colours_count(web, 0), 0)
            self.assertEqual(colours_count(web, 1), 0 if web[1] else 1)

    def test_by_trying_all(self):
        for web in WEBS:
            for many in range(6 if web[0] < 5 else 4):
                told = colours_count(web, many)
                self.assertEqual(told, count_by_hand(web, many), (web, many))
                self.assertIs(type(told), int)

    def test_many_colours(self):
        self.assertEqual(colours_count((3, ((0, 1), (1, 2), (0, 2))), HUGE), HUGE * (HUGE - 1) * (HUGE - 2))
        hexagon = (6, ((0, 1), (1, 2), (2, 3), (3, 4), (4, 5), (0, 5)))
        self.assertEqual(colours_count(hexagon, 1000), 999 ** 6 + 999)
        self.assertEqual(colours_count((4, ((0, 1), (2, 3), (2, 3))), 10 ** 9), 10 ** 18 * (10 ** 9 - 1) ** 2)

    def test_as_the_table_tells(self):
        for web in WEBS:
            parted = parts_count(web, range(len(web[1])))
            for many in (0, 1, 2, 3, 7, 10, 100, HUGE):
                due = (-1) ** (web[0] - parted) * many ** parted * worth(table_of(web), 1 - many, 0)
                self.assertEqual(colours_count(web, many), due)

    def test_by_the_names_of_the_parameters(self):
        self.assertEqual(colours_count(many=3, web=(2, ((0, 1),))), 6)


class OneOfThem(unittest.TestCase):
    def test_there_is_one_just_where_some_are_counted(self):
        for web in WEBS:
            for many in range(12):
                told = colouring(web, many)
                if colours_count(web, many) == 0:
                    self.assertIsNone(told)
                else:
                    self.assertIs(type(told), tuple)
                    self.assertTrue(all(type(colour) is int for colour in told))
                    self.assertTrue(is_colouring(web, many, told), (web, many, told))

    def test_the_edges(self):
        self.assertIsNone(colouring((1, ()), 0))
        self.assertEqual(colouring((4, ()), 1), (0, 0, 0, 0))
        self.assertIsNone(colouring((2, ((0, 1),)), 1))
        self.assertIsNone(colouring((6, ((5, 5),)), 10))

    def test_by_the_names_of_the_parameters(self):
        self.assertTrue(is_colouring((2, ((0, 1),)), 2, colouring(many=2, web=(2, ((0, 1),)))))


class TheFewest(unittest.TestCase):
    def test_of_ordinary_webs(self):
        for web, due in [((1, ()), 1), ((6, ()), 1), ((2, ((0, 1),)), 2), ((3, ((0, 1), (1, 2), (0, 2))), 3),
                         (GREAT_WEBS[0], 4), (GREAT_WEBS[1], 2), (GREAT_WEBS[2], 3), (GREAT_WEBS[5], 2),
                         ((5, ((0, 1), (1, 2), (2, 3), (3, 4), (0, 4))), 3)]:
            self.assertEqual(fewest_colours(web), due)

    def test_with_a_loop_there_are_none(self):
        for web in ((1, ((0, 0),)), (3, ((0, 1), (2, 2))), GREAT_WEBS[4]):
            self.assertIsNone(fewest_colours(web))

    def test_fewer_are_not_enough(self):
        for web in WEBS:
            told = fewest_colours(web)
            if has_loop(web):
                self.assertIsNone(told)
            else:
                self.assertIs(type(told), int)
                self.assertGreater(colours_count(web, told), 0)
                self.assertEqual([colours_count(web, many) for many in range(told)], [0] * told)

    def test_by_the_name_of_the_parameter(self):
        self.assertEqual(fewest_colours(web=(2, ((0, 1),))), 2)


if __name__ == "__main__":
    unittest.main()
