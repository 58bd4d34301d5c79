"""Orders, kept and free ties [13], homes of sets [14], the table by an order [3, 15]."""

import unittest

from samples import GREAT_WEBS, many_webs, orders_of, reckoned_webs, sets_of
from tietable.apart import table_of
from tietable.errors import NoForest, NoOrder
from tietable.forests import cut_of, forests, ring_of
from tietable.orders import free, home, kept, sorted_table

WEBS = many_webs()[::11] + GREAT_WEBS + reckoned_webs(25)
K4 = GREAT_WEBS[0]
TRIANGLE = (3, ((0, 1), (1, 2), (0, 2)))
HUGE = 9999999999


def comes_first(order, tie, some):
    return all(order.index(tie) <= order.index(other) for other in some)


def kept_by_hand(web, order, forest):
    return tuple(tie for tie in forest if comes_first(order, tie, cut_of(web, forest, tie)))


def free_by_hand(web, order, forest):
    return tuple(tie for tie in range(len(web[1]))
                 if tie not in forest and comes_first(order, tie, ring_of(web, forest, tie)))


class KeptAndFree(unittest.TestCase):
    def test_of_a_triangle(self):
        for order, forest, due_kept, due_free in [
            ([0, 1, 2], (0, 1), (0, 1), ()),
            ([0, 1, 2], (0, 2), (0,), ()),
            ([0, 1, 2], (1, 2), (), (0,)),
            ([2, 1, 0], (0, 1), (), (2,)),
            ([2, 1, 0], (1, 2), (1, 2), ()),
            ([1, 2, 0], (0, 1), (1,), ()),
        ]:
            self.assertEqual(kept(TRIANGLE, order, forest), due_kept, (order, forest))
            self.assertEqual(free(TRIANGLE, order, forest), due_free, (order, forest))

    def test_loops_are_always_free_and_cuts_by_themselves_kept(self):
        web = (4, ((0, 1), (2, 2), (1, 2), (0, 0)))
        for order in orders_of(web):
            self.assertEqual(kept(web, order, (0, 2)), (0, 2))
            self.assertEqual(free(web, order, (0, 2)), (1, 3))

    def test_without_ties(self):
        self.assertEqual(kept((3, ()), [], ()), ())
        self.assertEqual(free((3, ()), [], ()), ())

    def test_by_hand(self):
        for web in WEBS:
            for order in orders_of(web)[::5]:
                for forest in forests(web)[::3]:
                    self.assertEqual(kept(web, order, forest), kept_by_hand(web, order, forest))
                    self.assertEqual(free(web, order, forest), free_by_hand(web, order, forest))

    def test_by_the_names_of_the_parameters(self):
        self.assertEqual(kept(forest=(0, 2), order=[0, 1, 2], web=TRIANGLE), (0,))
        self.assertEqual(free(forest=(1, 2), order=[0, 1, 2], web=TRIANGLE), (0,))


class Homes(unittest.TestCase):
    def test_of_a_triangle(self):
        for some, forest in [((), (0, 1)), ((0,), (0, 1)), ((1,), (0, 1)), ((2,), (0, 2)), ((0, 1), (0, 1)),
                             ((0, 2), (0, 2)), ((1, 2), (1, 2)), ((0, 1, 2), (1, 2))]:
            self.assertEqual(home(TRIANGLE, [0, 1, 2], some), forest)

    def test_each_set_is_at_home_with_just_one_forest(self):
        for web in WEBS:
            for order in orders_of(web)[::7]:
                homes = {}
                for forest in forests(web):
                    needed = set(forest) - set(kept(web, order, forest))
                    allowed = set(forest) | set(free(web, order, forest))
                    for some in sets_of(web):
                        if needed <= set(some) <= allowed:
                            homes.setdefault(some, []).append(forest)
                for some in sets_of(web):
                    self.assertEqual(homes[some], [home(web, order, some)], (web, order, some))

    def test_a_forest_is_at_home_with_itself(self):
        for web in WEBS:
            for order in orders_of(web)[:3]:
                for forest in forests(web):
                    self.assertEqual(home(web, order, forest), forest)

    def test_by_the_names_of_the_parameters(self):
        self.assertEqual(home(some=(2,), order=[0, 1, 2], web=TRIANGLE), (0, 2))


class TheTable(unittest.TestCase):
    def test_it_is_the_webs_table_whatever_the_order(self):
        for web in WEBS:
            due = table_of(web)
            for order in orders_of(web):
                self.assertEqual(sorted_table(web, order), due, (web, order))

    def test_it_counts_the_forests_by_kept_and_free_ties(self):
        for web in WEBS[::3]:
            for order in orders_of(web)[:2]:
                pairs = [(len(kept(web, order, forest)), len(free(web, order, forest))) for forest in forests(web)]
                due = sorted((i, j, pairs.count((i, j))) for i, j in set(pairs))
                self.assertEqual(sorted_table(web, order), due)

    def test_without_ties(self):
        self.assertEqual(sorted_table((4, ()), []), [(0, 0, 1)])

    def test_what_is_told_is_a_new_list(self):
        first = sorted_table(K4, [0, 1, 2, 3, 4, 5])
        before = list(first)
        first.append((9, 9, 9))
        first[0] = (8, 8, 8)
        self.assertEqual(sorted_table(K4, [0, 1, 2, 3, 4, 5]), before)

    def test_by_the_names_of_the_parameters(self):
        self.assertEqual(sorted_table(order=[1, 0], web=(2, ((0, 1), (0, 1)))), [(0, 1, 1), (1, 0, 1)])


class Refused(unittest.TestCase):
    NO_ORDERS = [[], [0], [0, 1], [0, 1, 1], [0, 0, 0], [0, 1, 3], [1, 2, 3], [0, 1, -1], [-3, -2, -1], [0, 1, 2, 3],
                 [0, 1, 2, 2], [0, 1, 2, 0], [0, 1, HUGE], [2, 1, -HUGE]]

    def test_what_is_no_order(self):
        for order in self.NO_ORDERS:
            before = list(order)
            self.assertRaises(NoOrder, kept, TRIANGLE, order, (0, 1))
            self.assertRaises(NoOrder, free, TRIANGLE, order, (0, 1))
            self.assertRaises(NoOrder, home, TRIANGLE, order, (0,))
            self.assertRaises(NoOrder, home, TRIANGLE, order, ())
            self.assertRaises(NoOrder, sorted_table, TRIANGLE, order)
            self.assertEqual(order, before)
        for order in ([0], [-1], [0, 0]):
            self.assertRaises(NoOrder, sorted_table, (2, ()), order)
            self.assertRaises(NoOrder, home, (2, ()), order, ())

    def test_what_is_no_forest(self):
        for forest in [(), (0,), (0, 1, 2), (0, 3), (-1, 0), (1, 0), (0, 0), (HUGE,)]:
            self.assertRaises(NoForest, kept, TRIANGLE, [0, 1, 2], forest)
            self.assertRaises(NoForest, free, TRIANGLE, [0, 1, 2], forest)

    def test_the_forest_is_refused_ahead_of_the_order(self):
        for order in self.NO_ORDERS:
            self.assertRaises(NoForest, kept, TRIANGLE, order, (0, 1, 2))
            self.assertRaises(NoForest, free, TRIANGLE, order, (0,))

    def test_an_order_stays_as_it_was(self):
        order = [4, 0, 5, 2, 1, 3]
        kept(K4, order, (0, 1, 2))
        free(K4, order, (0, 1, 2))
        home(K4, order, (0, 5))
        sorted_table(K4, order)
        self.assertEqual(order, [4, 0, 5, 2, 1, 3])


if __name__ == "__main__":
    unittest.main()
