"""Arrows, an order or a round [20, 21], a round or a cut one way [3, 22]."""

import unittest
from itertools import product

from samples import GREAT_WEBS, many_webs, reckoned_webs
from tietable.arrows import arrow_order, tie_told
from tietable.errors import NoArrows, NoTie

WEBS = many_webs()[::13] + reckoned_webs(30)
TRIANGLE = (3, ((0, 1), (1, 2), (0, 2)))
HUGE = 9999999999


def leads(web, arrows, tie):
    a, b = web[1][tie]
    return (a, b) if arrows[tie] == 0 else (b, a)


def is_round(web, arrows, row):
    steps = [leads(web, arrows, tie) for tie in row]
    begins = [begin for begin, end in steps]
    ends = [end for begin, end in steps]
    return len(row) > 0 and ends == begins[1:] + begins[:1] and len(set(begins)) == len(begins)


def is_order(web, arrows, points):
    if sorted(points) != list(range(web[0])):
        return False
    steps = [leads(web, arrows, tie) for tie in range(len(web[1]))]
    return all(points.index(begin) < points.index(end) for begin, end in steps)


def is_cut_one_way(web, arrows, some):
    steps = [leads(web, arrows, tie) for tie in range(len(web[1]))]
    between = [(begin, end) for begin, end in steps if (begin in some) != (end in some)]
    rising = list(some) == sorted(set(some)) and set(some) <= set(range(web[0]))
    return rising and len(some) > 0 and len(between) > 0 and all(begin in some for begin, end in between)


def some_arrows(web):
    every = list(product((0, 1), repeat=len(web[1])))
    return every if len(every) <= 16 else every[::len(every) // 16 - 1]


class Telling(unittest.TestCase):
    def assert_order_or_round(self, web, arrows):
        told = arrow_order(web, arrows)
        self.assertIs(type(told), tuple)
        self.assertEqual(len(told), 2)
        self.assertIn(told[0], ("order", "round"))
        self.assertIs(type(told[1]), list)
        good = is_order if told[0] == "order" else is_round
        self.assertTrue(good(web, arrows, told[1]), (web, arrows, told))
        return told[0]

    def assert_round_or_cut(self, web, arrows, tie):
        told = tie_told(web, arrows, tie)
        self.assertIs(type(told), tuple)
        self.assertEqual(len(told), 2)
        self.assertIn(told[0], ("round", "cut"))
        if told[0] == "round":
            self.assertIs(type(told[1]), list)
            self.assertIn(tie, told[1])
            self.assertTrue(is_round(web, arrows, told[1]), (web, arrows, tie, told))
        else:
            self.assertIs(type(told[1]), tuple)
            begin, end = leads(web, arrows, tie)
            self.assertTrue(is_cut_one_way(web, arrows, told[1]), (web, arrows, tie, told))
            self.assertTrue(begin in told[1] and end not in told[1], (web, arrows, tie, told))
        return told[0]


class OrderOrRound(Telling):
    def test_ordinary_ones(self):
        self.assertEqual(arrow_order(TRIANGLE, (0, 0, 0)), ("order", [0, 1, 2]))
        self.assertEqual(arrow_order(TRIANGLE, (1, 1, 1)), ("order", [2, 1, 0]))
        self.assertEqual(self.assert_order_or_round(TRIANGLE, (0, 0, 1)), "round")
        self.assertEqual(self.assert_order_or_round(TRIANGLE, (1, 1, 0)), "round")

    def test_without_ties(self):
        for points in range(1, 7):
            self.assertEqual(self.assert_order_or_round((points, ()), ()), "order")

    def test_a_loop_is_a_round_both_ways(self):
        for arrow in (0, 1):
            self.assertEqual(arrow_order((1, ((0, 0),)), (arrow,)), ("round", [0]))
            self.assertEqual(arrow_order((3, ((0, 1), (2, 2))), (0, arrow)), ("round", [1]))

    def test_ties_between_the_same_two_points(self):
        web = (2, ((0, 1), (0, 1), (0, 1)))
        self.assertEqual(arrow_order(web, (0, 0, 0)), ("order", [0, 1]))
        self.assertEqual(arrow_order(web, (1, 1, 1)), ("order", [1, 0]))
        for arrows in ((0, 1, 0), (1, 0, 0), (1, 1, 0)):
            self.assertEqual(self.assert_order_or_round(web, arrows), "round")

    def test_points_that_do_not_hang_together(self):
        web = (6, ((0, 5), (1, 4), (1, 4)))
        self.assertEqual(self.assert_order_or_round(web, (1, 0, 0)), "order")
        self.assertEqual(self.assert_order_or_round(web, (1, 0, 1)), "round")

    def test_many_webs(self):
        kinds = set()
        for web in WEBS + GREAT_WEBS:
            for arrows in some_arrows(web):
                kinds.add(self.assert_order_or_round(web, arrows))
        self.assertEqual(kinds, {"order", "round"})

    def test_what_is_told_is_a_new_list(self):
        for arrows in ((0, 0, 0), (0, 0, 1)):
            first = arrow_order(TRIANGLE, arrows)[1]
            before = list(first)
            first.append(99)
            first[0] = 98
            self.assertEqual(arrow_order(TRIANGLE, arrows)[1], before)

    def test_by_the_names_of_the_parameters(self):
        self.assertEqual(arrow_order(arrows=(0,), web=(2, ((0, 1),))), ("order", [0, 1]))


class RoundOrCut(Telling):
    def test_ordinary_ones(self):
        self.assertEqual(self.assert_round_or_cut(TRIANGLE, (0, 0, 1), 2), "round")
        self.assertEqual(self.assert_round_or_cut(TRIANGLE, (0, 0, 0), 2), "cut")
        self.assertEqual(tie_told((2, ((0, 1),)), (0,), 0), ("cut", (0,)))
        self.assertEqual(tie_told((2, ((0, 1),)), (1,), 0), ("cut", (1,)))

    def test_a_loop_lies_in_a_round(self):
        web = (2, ((0, 1), (1, 1)))
        for arrows in product((0, 1), repeat=2):
            self.assertEqual(tie_told(web, arrows, 1), ("round", [1]))
            self.assertEqual(self.assert_round_or_cut(web, arrows, 0), "cut")

    def test_two_triangles_and_a_tie_between_them(self):
        web = (6, ((0, 1), (1, 2), (0, 2), (3, 4), (4, 5), (3, 5), (2, 3)))
        arrows = (0, 0, 1, 0, 0, 0, 0)
        kinds = [self.assert_round_or_cut(web, arrows, tie) for tie in range(7)]
        self.assertEqual(kinds, ["round"] * 3 + ["cut"] * 4)

    def test_each_tie_lies_in_one_of_both_and_none_in_both(self):
        kinds = set()
        for web in WEBS[::2] + GREAT_WEBS:
            points = range(web[0])
            subsets = [tuple(p for p in points if bits >> p & 1) for bits in range(2 ** web[0])]
            for arrows in some_arrows(web):
                cuts = [some for some in subsets if is_cut_one_way(web, arrows, some)]
                for tie in range(len(web[1])):
                    told = self.assert_round_or_cut(web, arrows, tie)
                    kinds.add(told)
                    begin = leads(web, arrows, tie)[0]
                    end = leads(web, arrows, tie)[1]
                    crossed = any(begin in some and end not in some for some in cuts)
                    self.assertEqual(told == "cut", crossed, (web, arrows, tie))
        self.assertEqual(kinds, {"round", "cut"})

    def test_there_is_an_order_just_where_no_tie_lies_in_a_round(self):
        for web in WEBS:
            for arrows in some_arrows(web):
                rounds = [tie for tie in range(len(web[1])) if tie_told(web, arrows, tie)[0] == "round"]
                self.assertEqual(arrow_order(web, arrows)[0], "round" if rounds else "order")

    def test_what_is_told_is_a_new_list(self):
        first = tie_told(TRIANGLE, (0, 0, 1), 1)[1]
        before = list(first)
        first.append(99)
        self.assertEqual(tie_told(TRIANGLE, (0, 0, 1), 1)[1], before)

    def test_by_the_names_of_the_parameters(self):
        self.assertEqual(tie_told(tie=0, arrows=(0,), web=(2, ((0, 1),))), ("cut", (0,)))


class Refused(unittest.TestCase):
    NO_ARROWS = [(), (0,), (0, 1), (0, 1, 2), (0, 0, -1), (2, 0, 0), (0, 0, 0, 0), (1, 1, 1, 1), (0, HUGE, 0),
                 (-HUGE, 0, 0), (-1, -1, -1)]

    def test_arrows_that_are_not_so_many_or_other_numbers(self):
        for arrows in self.NO_ARROWS:
            self.assertRaises(NoArrows, arrow_order, TRIANGLE, arrows)
            for tie in range(3):
                self.assertRaises(NoArrows, tie_told, TRIANGLE, arrows, tie)
        self.assertRaises(NoArrows, arrow_order, (1, ()), (0,))
        self.assertRaises(NoArrows, arrow_order, (1, ((0, 0),)), ())
        self.assertRaises(NoArrows, arrow_order, (1, ((0, 0),)), (2,))

    def test_a_number_that_is_no_ties(self):
        for web in (TRIANGLE, (1, ()), (1, ((0, 0),)), GREAT_WEBS[1]):
            many = len(web[1])
            for tie in (-1, -many, -many - 1, many, many + 1, 99, HUGE, -HUGE):
                if not 0 <= tie < many:
                    with self.assertRaises(NoTie) as caught:
                        tie_told(web, (0,) * many, tie)
                    self.assertEqual(caught.exception.tie, tie)

    def test_the_arrows_are_refused_ahead_of_the_tie(self):
        for arrows in self.NO_ARROWS:
            for tie in (-1, 3, HUGE):
                self.assertRaises(NoArrows, tie_told, TRIANGLE, arrows, tie)


if __name__ == "__main__":
    unittest.main()
