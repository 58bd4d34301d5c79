"""The worth of a table; tables added, multiplied and turned [10]."""

import unittest
from itertools import product

from samples import GREAT_WEBS, table_by_sets
from tietable.tables import added, exchanged, multiplied, worth

# As any list may be handed in: unsorted, with I and J more than once, TIMES of 0 and below it.
LISTS = [
    [],
    [(0, 0, 1)],
    [(0, 0, -3)],
    [(0, 0, 0)],
    [(2, 5, 0), (0, 1, 0)],
    [(1, 0, 4), (0, 1, 2), (1, 0, -4)],
    [(3, 2, 1), (0, 0, 5), (3, 2, 1), (1, 4, -2), (0, 0, -1)],
    [(0, 1, 7), (0, 1, -7)],
    [(1, 1, 1), (0, 2, -1), (2, 0, -1)],
    [(0, 3, 1), (0, 3, 1), (0, 3, 1)],
    [(6, 9, 123456789), (9, 6, -987654321)],
    table_by_sets(GREAT_WEBS[0]),
    list(reversed(table_by_sets(GREAT_WEBS[1]))),
]

NUMBERS = [-3, -2, -1, 0, 1, 2, 3, 10, -17]


def worth_by_hand(table, x, y):
    return sum(times * x ** i * y ** j for i, j, times in table)


def put_in_order(table):
    sums = {}
    for i, j, times in table:
        sums[i, j] = sums.get((i, j), 0) + times
    return [(i, j, sums[i, j]) for i, j in sorted(sums) if sums[i, j] != 0]


class Tabling(unittest.TestCase):
    def assert_table(self, told, due):
        self.assertEqual(told, due)
        self.assertIs(type(told), list)
        for one in told:
            self.assertIs(type(one), tuple)
            self.assertTrue(all(type(number) is int for number in one))


class Worth(Tabling):
    def test_ordinary_tables(self):
        self.assertEqual(worth([(0, 1, 1), (1, 0, 1), (2, 0, 1)], 2, 0), 6)
        self.assertEqual(worth([(0, 1, 1), (1, 0, 1), (2, 0, 1)], 0, 2), 2)
        self.assertEqual(worth([(0, 1, 1), (1, 0, 1), (2, 0, 1)], -2, 5), 7)
        self.assertEqual(worth([(3, 2, 2)], 10, -1), 2000)

    def test_the_empty_list(self):
        for x, y in product(NUMBERS, repeat=2):
            self.assertEqual(worth([], x, y), 0)

    def test_nothing_taken_0_times_is_1(self):
        self.assertEqual(worth([(0, 0, 5)], 0, 0), 5)
        self.assertEqual(worth([(0, 0, 1), (1, 0, 10), (0, 1, 100), (1, 1, 1000)], 0, 0), 1)
        self.assertEqual(worth([(0, 2, 3)], 0, 4), 48)
        self.assertEqual(worth([(2, 0, 3)], 4, 0), 48)
        self.assertEqual(worth([(2, 1, 3)], 4, 0), 0)

    def test_any_list_at_any_numbers(self):
        for table in LISTS:
            for x, y in product(NUMBERS, repeat=2):
                told = worth(table, x, y)
                self.assertEqual(told, worth_by_hand(table, x, y), (table, x, y))
                self.assertIs(type(told), int)

    def test_great_numbers(self):
        self.assertEqual(worth([(6, 9, 9999999999)], 9999999999, -9999999999), -9999999999 ** 16)
        self.assertEqual(worth([(40, 0, 1), (0, 33, -1)], 3, 7), 3 ** 40 - 7 ** 33)

    def test_taken_very_often(self):
        self.assertEqual(worth([(9999999999, 9999999998, 3)], -1, -1), -3)
        self.assertEqual(worth([(9999999999, 0, 3), (0, 9999999998, 5)], 1, 0), 3)

    def test_by_the_names_of_the_parameters(self):
        self.assertEqual(worth(y=3, x=2, table=[(1, 2, 1)]), 18)


class TwoTables(Tabling):
    def test_ordinary_sums_and_products(self):
        one = [(0, 1, 1), (1, 0, 1)]
        other = [(0, 0, 2), (1, 0, -1)]
        self.assert_table(added(one, other), [(0, 0, 2), (0, 1, 1)])
        self.assert_table(multiplied(one, other), [(0, 1, 2), (1, 0, 2), (1, 1, -1), (2, 0, -1)])

    def test_the_empty_list(self):
        for table in LISTS:
            self.assert_table(added(table, []), put_in_order(table))
            self.assert_table(added([], table), put_in_order(table))
            self.assert_table(multiplied(table, []), [])
            self.assert_table(multiplied([], table), [])
            self.assert_table(multiplied(table, [(0, 0, 1)]), put_in_order(table))
        self.assert_table(added([], []), [])
        self.assert_table(multiplied([], []), [])

    def test_what_adds_up_to_0_is_left_out(self):
        self.assert_table(added([(1, 2, 3)], [(1, 2, -3)]), [])
        self.assert_table(added([(1, 2, 3), (1, 2, -3)], [(0, 0, 0)]), [])
        self.assert_table(multiplied([(1, 0, 1), (0, 1, -1)], [(1, 0, 1), (0, 1, 1)]), [(0, 2, -1), (2, 0, 1)])
        self.assert_table(multiplied([(1, 1, 1), (1, 1, -1)], [(3, 3, 3)]), [])

    def test_any_two_lists(self):
        for one, other in product(LISTS, repeat=2):
            summed, times = added(one, other), multiplied(one, other)
            self.assert_table(summed, put_in_order(one + other))
            self.assert_table(times, put_in_order([(i + k, j + m, a * b) for i, j, a in one for k, m, b in other]))
            for x, y in product((-2, 0, 1, 3), repeat=2):
                self.assertEqual(worth(summed, x, y), worth(one, x, y) + worth(other, x, y))
                self.assertEqual(worth(times, x, y), worth(one, x, y) * worth(other, x, y))

    def test_a_table_with_itself(self):
        for table in LISTS:
            self.assert_table(added(table, table), put_in_order([(i, j, 2 * times) for i, j, times in table]))

    def test_by_the_names_of_the_parameters(self):
        self.assert_table(added(other=[(0, 0, 1)], one=[(1, 0, 1)]), [(0, 0, 1), (1, 0, 1)])
        self.assert_table(multiplied(other=[(0, 1, 2)], one=[(1, 0, 3)]), [(1, 1, 6)])


class Turned(Tabling):
    def test_i_and_j_are_exchanged(self):
        self.assert_table(exchanged([(0, 1, 1), (1, 0, 2), (2, 0, 3)]), [(0, 1, 2), (0, 2, 3), (1, 0, 1)])
        self.assert_table(exchanged([]), [])
        self.assert_table(exchanged([(3, 1, 0)]), [])

    def test_any_list(self):
        for table in LISTS:
            self.assert_table(exchanged(table), put_in_order([(j, i, times) for i, j, times in table]))
            self.assert_table(exchanged(exchanged(table)), put_in_order(table))
            for x, y in product(NUMBERS, repeat=2):
                self.assertEqual(worth(exchanged(table), x, y), worth(table, y, x))

    def test_by_the_names_of_the_parameters(self):
        self.assert_table(exchanged(table=[(1, 0, 2)]), [(0, 1, 2)])


class OwnLists(Tabling):
    def test_what_is_handed_in_stays_as_it_was(self):
        for one, other in product(LISTS, repeat=2):
            before = list(one), list(other)
            worth(one, 2, 3)
            added(one, other)
            multiplied(one, other)
            exchanged(one)
            self.assertEqual((one, other), before)

    def test_what_is_told_is_a_new_list(self):
        for ask in (lambda table: added(table, []), lambda table: added([], table),
                    lambda table: multiplied(table, [(0, 0, 1)]), exchanged):
            table = [(0, 0, 1), (1, 1, 2)]
            first = ask(table)
            self.assertIsNot(first, table)
            first.append((9, 9, 9))
            first[0] = (8, 8, 8)
            self.assertEqual(table, [(0, 0, 1), (1, 1, 2)])
            self.assertEqual(ask(table), [(0, 0, 1), (1, 1, 2)])


if __name__ == "__main__":
    unittest.main()
