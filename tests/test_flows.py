"""Flows [18, 19], and that the table tells how many there are [3]."""

import unittest
from itertools import product

from samples import GREAT_WEBS, many_webs, parts_count, reckoned_webs
from tietable.apart import table_of
from tietable.errors import NoHours
from tietable.flows import flow, flows_count
from tietable.rings import is_cut
from tietable.tables import worth

WEBS = many_webs()[::5] + reckoned_webs(60) + GREAT_WEBS
HUGE = 9999999999


def balances(web, hours, row):
    rest = [0] * web[0]
    for (a, b), amount in zip(web[1], row):
        rest[a] -= amount
        rest[b] += amount
    return all(amount % hours == 0 for amount in rest)


def is_flow(web, hours, row):
    return len(row) == len(web[1]) and all(1 <= amount < hours for amount in row) and balances(web, hours, row)


def count_by_hand(web, hours):
    return sum(balances(web, hours, row) for row in product(range(1, hours), repeat=len(web[1])))


class HowMany(unittest.TestCase):
    def test_of_ordinary_webs(self):
        triangle = (3, ((0, 1), (1, 2), (0, 2)))
        self.assertEqual([flows_count(triangle, hours) for hours in range(1, 6)], [0, 1, 2, 3, 4])
        self.assertEqual([flows_count(GREAT_WEBS[0], hours) for hours in range(1, 6)], [0, 0, 0, 6, 24])

    def test_without_ties_there_is_the_empty_one(self):
        for points in range(1, 7):
            for hours in (1, 2, 10, HUGE):
                self.assertEqual(flows_count((points, ()), hours), 1)

    def test_a_loop_takes_any_number(self):
        for hours in (1, 2, 3, 10, HUGE):
            self.assertEqual(flows_count((1, ((0, 0),)), hours), hours - 1)
            self.assertEqual(flows_count((3, ((0, 0), (2, 2), (2, 2))), hours), (hours - 1) ** 3)

    def test_one_hour(self):
        for web in WEBS:
            self.assertEqual(flows_count(web, 1), 0 if web[1] else 1)

    def test_by_trying_all(self):
        for web in WEBS:
            for hours in range(1, 7):
                if hours ** len(web[1]) < 3000:
                    told = flows_count(web, hours)
                    self.assertEqual(told, count_by_hand(web, hours), (web, hours))
                    self.assertIs(type(told), int)

    def test_many_hours(self):
        self.assertEqual(flows_count((2, ((0, 1), (0, 1), (0, 1))), HUGE), (HUGE - 1) * (HUGE - 2))
        self.assertEqual(flows_count((4, ((0, 1), (1, 2), (2, 3), (0, 3))), HUGE), HUGE - 1)

    def test_as_the_table_tells(self):
        for web in WEBS:
            more = len(web[1]) - web[0] + parts_count(web, range(len(web[1])))
            for hours in (1, 2, 3, 6, 10, 100, HUGE):
                self.assertEqual(flows_count(web, hours), (-1) ** more * worth(table_of(web), 0, 1 - hours))

    def test_none_with_a_cut_by_itself(self):
        for web in WEBS:
            if any(is_cut(web, (tie,)) for tie in range(len(web[1]))):
                for hours in (1, 2, 3, 10, HUGE):
                    self.assertEqual(flows_count(web, hours), 0)
                    self.assertIsNone(flow(web, hours))

    def test_by_the_names_of_the_parameters(self):
        self.assertEqual(flows_count(hours=5, web=(1, ((0, 0),))), 4)


class OneOfThem(unittest.TestCase):
    def test_there_is_one_just_where_some_are_counted(self):
        for web in WEBS:
            for hours in range(1, 13):
                told = flow(web, hours)
                if flows_count(web, hours) == 0:
                    self.assertIsNone(told)
                else:
                    self.assertIs(type(told), tuple)
                    self.assertTrue(all(type(amount) is int for amount in told))
                    self.assertTrue(is_flow(web, hours, told), (web, hours, told))

    def test_the_edges(self):
        for points in range(1, 7):
            for hours in (1, 2, 10):
                self.assertEqual(flow((points, ()), hours), ())
        self.assertIsNone(flow((1, ((0, 0),)), 1))
        self.assertEqual(flow((1, ((0, 0),)), 2), (1,))
        self.assertIsNone(flow((2, ((0, 1), (0, 1), (0, 1))), 2))
        self.assertEqual(flow((2, ((0, 1), (0, 1))), 2), (1, 1))
        self.assertIsNone(flow((2, ((0, 1),)), 10))

    def test_by_the_names_of_the_parameters(self):
        self.assertEqual(flow(hours=2, web=(1, ((0, 0),))), (1,))


class Refused(unittest.TestCase):
    def test_hours_below_1(self):
        for web in WEBS[::20] + [(1, ()), (1, ((0, 0),)), (2, ((0, 1),))]:
            for hours in (0, -1, -2, -10, -HUGE):
                self.assertRaises(NoHours, flows_count, web, hours)
                self.assertRaises(NoHours, flow, web, hours)


if __name__ == "__main__":
    unittest.main()
