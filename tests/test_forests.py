"""Forests, and the ring and the cut of a forest and a tie [12]."""

import unittest

from samples import GREAT_WEBS, many_webs, parts_count, reckoned_webs, sets_of
from tietable.apart import table_of
from tietable.errors import NoForest, NoTie
from tietable.forests import cut_of, forests, ring_of
from tietable.rings import is_cut, is_ring
from tietable.tables import worth

WEBS = many_webs()[::5] + GREAT_WEBS + reckoned_webs(40)
K4 = GREAT_WEBS[0]
HUGE = 9999999999


def forests_by_sets(web):
    fewest = parts_count(web, range(len(web[1])))
    return sorted(some for some in sets_of(web)
                  if parts_count(web, some) == fewest and len(some) == web[0] - fewest)


def refused_tie(case, ask, web, forest, tie):
    with case.assertRaises(NoTie) as caught:
        ask(web, forest, tie)
    case.assertEqual(caught.exception.tie, tie)


class Forests(unittest.TestCase):
    def test_of_ordinary_webs(self):
        self.assertEqual(forests((3, ((0, 1), (1, 2), (0, 2)))), [(0, 1), (0, 2), (1, 2)])
        self.assertEqual(forests((3, ((0, 1), (0, 1), (1, 2), (2, 2)))), [(0, 2), (1, 2)])
        self.assertEqual(len(forests(K4)), 16)
        self.assertEqual(len(forests(GREAT_WEBS[1])), 81)
        self.assertEqual(len(forests(GREAT_WEBS[2])), 75)

    def test_of_webs_without_ties_or_with_loops_alone(self):
        for points in range(1, 7):
            self.assertEqual(forests((points, ())), [()])
            self.assertEqual(forests((points, ((0, 0), (points - 1, points - 1)))), [()])

    def test_of_webs_that_do_not_hang_together(self):
        self.assertEqual(forests((4, ((0, 1), (2, 3), (0, 1)))), [(0, 1), (1, 2)])
        self.assertEqual(forests((5, ((0, 3),))), [(0,)])

    def test_by_all_sets(self):
        for web in WEBS:
            told = forests(web)
            self.assertEqual(told, forests_by_sets(web), web)
            self.assertIs(type(told), list)
            self.assertTrue(all(type(forest) is tuple for forest in told))

    def test_there_are_as_many_as_the_tables_worth_at_1_and_1(self):
        for web in WEBS:
            self.assertEqual(len(forests(web)), worth(table_of(web), 1, 1))

    def test_what_is_told_is_a_new_list(self):
        for web in GREAT_WEBS:
            first = forests(web)
            before = list(first)
            first.append((99,))
            first[0] = (98,)
            self.assertEqual(forests(web), before)

    def test_by_the_name_of_the_parameter(self):
        self.assertEqual(forests(web=(2, ((0, 1),))), [(0,)])


class RingsAndCuts(unittest.TestCase):
    def test_ordinary_ones(self):
        self.assertEqual(ring_of(K4, (0, 1, 2), 3), (0, 1, 3))
        self.assertEqual(ring_of(K4, (0, 3, 5), 2), (0, 2, 3, 5))
        self.assertEqual(cut_of(K4, (0, 1, 2), 0), (0, 3, 4))
        self.assertEqual(cut_of(K4, (0, 3, 5), 3), (1, 2, 3, 4))

    def test_loops_ties_between_the_same_points_and_cuts_by_themselves(self):
        web = (4, ((2, 2), (0, 1), (0, 1), (1, 3)))
        self.assertEqual(ring_of(web, (1, 3), 0), (0,))
        self.assertEqual(ring_of(web, (1, 3), 2), (1, 2))
        self.assertEqual(cut_of(web, (1, 3), 1), (1, 2))
        self.assertEqual(cut_of(web, (2, 3), 3), (3,))
        self.assertEqual(ring_of((1, ((0, 0),)), (), 0), (0,))

    def test_each_is_the_one_there_is(self):
        for web in WEBS:
            sets = sets_of(web)
            rings = [some for some in sets if is_ring(web, some)]
            cuts = [some for some in sets if is_cut(web, some)]
            for forest in forests(web)[::5]:
                for tie in range(len(web[1])):
                    if tie in forest:
                        outer = set(range(len(web[1]))) - set(forest) | {tie}
                        self.assertEqual([cut_of(web, forest, tie)], [cut for cut in cuts if set(cut) <= outer])
                    else:
                        inner = set(forest) | {tie}
                        self.assertEqual([ring_of(web, forest, tie)], [ring for ring in rings if set(ring) <= inner])

    def test_by_the_names_of_the_parameters(self):
        self.assertEqual(ring_of(tie=3, forest=(0, 1, 2), web=K4), (0, 1, 3))
        self.assertEqual(cut_of(tie=0, forest=(0, 1, 2), web=K4), (0, 3, 4))


class Refused(unittest.TestCase):
    def test_what_is_no_forest(self):
        for forest in [(), (0,), (0, 1), (0, 1, 3), (0, 1, 2, 3), (0, 1, 6), (0, 1, 99), (-1, 0, 1), (-6, 1, 2),
                       (0, 1, HUGE), (1, 0, 2), (0, 1, 1), (0, 0, 1), (0, 1, 2, 2)]:
            for tie in (0, 3, 5):
                self.assertRaises(NoForest, ring_of, K4, forest, tie)
                self.assertRaises(NoForest, cut_of, K4, forest, tie)
        for web in [(1, ()), (2, ((0, 0),)), (1, ((0, 0),))]:
            for forest in [(0,), (1,), (-1,), (0, 1)]:
                self.assertRaises(NoForest, ring_of, web, forest, 0)
                self.assertRaises(NoForest, cut_of, web, forest, 0)

    def test_every_set_that_is_none(self):
        for web in WEBS[::4]:
            listed = forests(web)
            for some in sets_of(web):
                if some not in listed:
                    self.assertRaises(NoForest, ring_of, web, some, 0)
                    self.assertRaises(NoForest, cut_of, web, some, 0)

    def test_a_tie_that_is_not_outside_or_not_of_it(self):
        for web in WEBS:
            many = len(web[1])
            forest = forests(web)[-1]
            for tie in [-HUGE, -many - 1, -many, -1, many, many + 1, 99, HUGE]:
                if not 0 <= tie < many:
                    refused_tie(self, ring_of, web, forest, tie)
                    refused_tie(self, cut_of, web, forest, tie)
            for tie in range(many):
                refused_tie(self, ring_of if tie in forest else cut_of, web, forest, tie)

    def test_the_forest_is_refused_ahead_of_the_tie(self):
        for tie in (-1, 6, 0, HUGE):
            self.assertRaises(NoForest, ring_of, K4, (0, 1, 3), tie)
            self.assertRaises(NoForest, cut_of, K4, (0, 1, 3), tie)


if __name__ == "__main__":
    unittest.main()
