"""The table of a web [9], and what follows for it when a web is taken apart or put together [3, 11]."""

import unittest

from samples import GREAT_WEBS, many_webs, reckoned_webs, table_by_sets
from tietable.apart import table_of
from tietable.rings import is_cut
from tietable.tables import added, multiplied, worth
from tietable.webs import beside, drawn, joined, without

SOME_WEBS = many_webs()[::7] + GREAT_WEBS + reckoned_webs(60)

FEW_WEBS = [
    (1, ()), (1, ((0, 0),)), (1, ((0, 0), (0, 0))), (2, ()), (2, ((0, 1),)), (2, ((0, 1), (0, 1))),
    (2, ((0, 1), (0, 0))), (2, ((1, 1), (1, 1))), (3, ((0, 1), (1, 2), (0, 2))), (3, ((0, 1), (1, 2))),
    (3, ((0, 2), (0, 2), (1, 1))), (3, ()),
]


class Tables(unittest.TestCase):
    def test_of_small_webs_by_hand(self):
        for web, due in [
            ((1, ()), [(0, 0, 1)]),
            ((6, ()), [(0, 0, 1)]),
            ((1, ((0, 0),)), [(0, 1, 1)]),
            ((2, ((0, 1),)), [(1, 0, 1)]),
            ((3, ((0, 1), (1, 2), (2, 2))), [(2, 1, 1)]),
            ((2, ((0, 1), (0, 1))), [(0, 1, 1), (1, 0, 1)]),
            ((3, ((0, 1), (1, 2), (0, 2))), [(0, 1, 1), (1, 0, 1), (2, 0, 1)]),
            (GREAT_WEBS[0], [(0, 1, 2), (0, 2, 3), (0, 3, 1), (1, 0, 2), (1, 1, 4), (2, 0, 3), (3, 0, 1)]),
        ]:
            self.assertEqual(table_of(web), due)

    def test_by_all_sets_of_ties(self):
        for web in many_webs() + reckoned_webs(60):
            self.assertEqual(table_of(web), table_by_sets(web), web)

    def test_its_kind(self):
        for web in SOME_WEBS:
            told = table_of(web)
            self.assertIs(type(told), list)
            self.assertEqual(told, sorted(told))
            self.assertEqual(len({(i, j) for i, j, times in told}), len(told))
            for one in told:
                self.assertIs(type(one), tuple)
                self.assertTrue(all(type(number) is int for number in one))
                self.assertGreater(one[2], 0)

    def test_at_2_and_2_it_counts_all_sets(self):
        for web in SOME_WEBS:
            self.assertEqual(worth(table_of(web), 2, 2), 2 ** len(web[1]))

    def test_neither_the_order_of_the_ties_nor_the_numbers_of_the_points_matter(self):
        for web in SOME_WEBS:
            turned = tuple((web[0] - 1 - b, web[0] - 1 - a) for a, b in reversed(web[1]))
            self.assertEqual(table_of((web[0], turned)), table_of(web))

    def test_what_is_told_is_a_new_list(self):
        for web in FEW_WEBS + GREAT_WEBS:
            first = table_of(web)
            before = list(first)
            first.append((9, 9, 9))
            first[0] = (8, 8, 8)
            self.assertEqual(table_of(web), before)

    def test_by_the_name_of_the_parameter(self):
        self.assertEqual(table_of(web=(2, ((0, 1),))), [(1, 0, 1)])


class WhicheverTie(unittest.TestCase):
    def test_each_tie_by_its_kind(self):
        seen = set()
        for web in SOME_WEBS:
            for tie, (a, b) in enumerate(web[1]):
                told = table_of(web)
                if a == b:
                    seen.add("loop")
                    due = [(i, j + 1, times) for i, j, times in table_of(without(web, tie))]
                elif is_cut(web, (tie,)):
                    seen.add("cut")
                    due = [(i + 1, j, times) for i, j, times in table_of(drawn(web, tie))]
                else:
                    seen.add("neither")
                    due = added(table_of(without(web, tie)), table_of(drawn(web, tie)))
                self.assertEqual(told, due, (web, tie))
        self.assertEqual(seen, {"loop", "cut", "neither"})

    def test_loops_alone_and_cuts_by_themselves_alone(self):
        for many in range(1, 10):
            self.assertEqual(table_of((2, ((1, 1),) * many)), [(0, many, 1)])
        for many in range(1, 6):
            path = tuple((point, point + 1) for point in range(many))
            star = tuple((0, point + 1) for point in range(many))
            for ties in (path, star):
                self.assertEqual(table_of((many + 1, ties)), [(many, 0, 1)])
                self.assertEqual(table_of((many + 1, ties + ((0, 0), (1, 1)))), [(many, 2, 1)])


class PutTogether(unittest.TestCase):
    def test_side_by_side(self):
        for one in FEW_WEBS:
            for other in FEW_WEBS:
                self.assertEqual(table_of(beside(one, other)), multiplied(table_of(one), table_of(other)))

    def test_joined_at_any_two_points(self):
        for one in FEW_WEBS:
            for other in FEW_WEBS:
                due = multiplied(table_of(one), table_of(other))
                for point in range(one[0]):
                    for place in range(other[0]):
                        self.assertEqual(table_of(joined(one, point, other, place)), due)

    def test_a_great_web_joined_with_a_triangle(self):
        one, other = GREAT_WEBS[0], (3, ((0, 1), (1, 2), (0, 2)))
        due = multiplied(table_of(one), table_of(other))
        self.assertEqual(table_of(joined(one, 3, other, 1)), due)
        self.assertEqual(due, table_by_sets(joined(one, 0, other, 2)))


if __name__ == "__main__":
    unittest.main()
