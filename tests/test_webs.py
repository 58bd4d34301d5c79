"""Webs made and refused [4], taken apart [6], put together [7]."""

import unittest

from samples import many_webs
from tietable.errors import NoTie, NoWeb
from tietable.webs import beside, drawn, joined, web_of, without

HUGE = 9999999999


class Asking(unittest.TestCase):
    def assert_no_web(self, due, ask, *handed, **named):
        with self.assertRaises(NoWeb) as caught:
            ask(*handed, **named)
        self.assertEqual(caught.exception.place, due)
        self.assertEqual(type(caught.exception.place), type(due))

    def assert_no_tie(self, ask, web, tie):
        with self.assertRaises(NoTie) as caught:
            ask(web, tie)
        self.assertEqual(caught.exception.tie, tie)

    def assert_web(self, told, points, ties):
        self.assertEqual(told, (points, ties))
        self.assertIs(type(told), tuple)
        self.assertIs(type(told[0]), int)
        self.assertIs(type(told[1]), tuple)
        for tie in told[1]:
            self.assertIs(type(tie), tuple)


class MadeWebs(Asking):
    def test_ordinary_webs(self):
        self.assert_web(web_of(3, [(0, 1), (1, 2), (0, 2)]), 3, ((0, 1), (1, 2), (0, 2)))
        self.assert_web(web_of(4, [(2, 3), (0, 1)]), 4, ((2, 3), (0, 1)))

    def test_a_loop_and_two_ties_between_the_same_points_and_no_ties(self):
        self.assert_web(web_of(3, [(0, 1), (0, 1), (2, 2)]), 3, ((0, 1), (0, 1), (2, 2)))
        self.assert_web(web_of(1, [(0, 0)]), 1, ((0, 0),))
        self.assert_web(web_of(2, []), 2, ())

    def test_from_one_to_six_points(self):
        for points in range(1, 7):
            self.assert_web(web_of(points, [(0, points - 1)]), points, ((0, points - 1),))

    def test_other_numbers_of_points_are_refused(self):
        for points in (0, 7, -1, -6, 8, HUGE, -HUGE):
            self.assert_no_web(None, web_of, points, [])

    def test_nine_ties_and_ten(self):
        self.assert_web(web_of(6, [(0, 5)] * 9), 6, ((0, 5),) * 9)
        self.assert_no_web(None, web_of, 6, [(0, 5)] * 10)
        self.assert_no_web(None, web_of, 6, [(0, 5)] * 11)

    def test_what_is_no_tie_is_refused_with_its_place(self):
        for wrong in [(1, 0), (2, 1), (-1, 0), (-1, -1), (-2, -1), (0, 3), (3, 3), (2, 3),
                      (3, 4), (0, HUGE), (-HUGE, 0), (), (0,), (0, 1, 2)]:
            self.assert_no_web(0, web_of, 3, [wrong])
            self.assert_no_web(2, web_of, 3, [(0, 1), (2, 2), wrong, (0, 2)])

    def test_the_last_point_is_the_number_less_one(self):
        for points in range(1, 7):
            self.assert_no_web(0, web_of, points, [(0, points)])
            self.assert_no_web(0, web_of, points, [(points, points)])

    def test_the_place_is_that_of_the_first_one(self):
        self.assert_no_web(1, web_of, 2, [(0, 1), (0, 2), (1, 0), (-1, 0)])
        self.assert_no_web(8, web_of, 2, [(0, 1)] * 8 + [(1, 0)])

    def test_the_numbers_are_refused_ahead_of_the_ties(self):
        self.assert_no_web(None, web_of, 0, [(0, 0)])
        self.assert_no_web(None, web_of, 7, [(1, 0)])
        self.assert_no_web(None, web_of, -1, [(1, 0)])
        self.assert_no_web(None, web_of, 2, [(1, 0)] + [(0, 1)] * 9)
        self.assert_no_web(None, web_of, 7, [(1, 0)] * 10)

    def test_by_the_names_of_the_parameters(self):
        self.assert_web(web_of(ties=[(0, 1)], points=2), 2, ((0, 1),))


def drawn_anew(web, tie):
    """The points as a row of names, the greater one struck out: another way to the same web."""
    points, ties = web
    lesser, greater = ties[tie]
    row = [point for point in range(points) if point == lesser or point != greater]
    place = {point: number for number, point in enumerate(row)}
    place[greater] = place[lesser]
    others = [other for number, other in enumerate(ties) if number != tie]
    return len(row), tuple(tuple(sorted((place[a], place[b]))) for a, b in others)


class TakenApart(Asking):
    WEB = (5, ((0, 1), (1, 3), (2, 3), (3, 4), (1, 3), (2, 2), (0, 4)))

    def test_without_a_tie_the_points_and_the_order_stay(self):
        self.assert_web(without(self.WEB, 0), 5, ((1, 3), (2, 3), (3, 4), (1, 3), (2, 2), (0, 4)))
        self.assert_web(without(self.WEB, 3), 5, ((0, 1), (1, 3), (2, 3), (1, 3), (2, 2), (0, 4)))
        self.assert_web(without(self.WEB, 6), 5, ((0, 1), (1, 3), (2, 3), (3, 4), (1, 3), (2, 2)))
        self.assert_web(without((2, ((0, 1),)), 0), 2, ())

    def test_drawn_together_the_lesser_number_stays(self):
        self.assert_web(drawn(self.WEB, 0), 4, ((0, 2), (1, 2), (2, 3), (0, 2), (1, 1), (0, 3)))
        # 3 becomes 1 and 4 becomes 3: the tie (2, 3) is turned so that it rises.
        self.assert_web(drawn(self.WEB, 1), 4, ((0, 1), (1, 2), (1, 3), (1, 1), (2, 2), (0, 3)))
        self.assert_web(drawn(self.WEB, 3), 4, ((0, 1), (1, 3), (2, 3), (1, 3), (2, 2), (0, 3)))
        self.assert_web(drawn(self.WEB, 6), 4, ((0, 1), (1, 3), (2, 3), (0, 3), (1, 3), (2, 2)))

    def test_a_loop_is_only_taken_out(self):
        self.assert_web(drawn(self.WEB, 5), 5, ((0, 1), (1, 3), (2, 3), (3, 4), (1, 3), (0, 4)))
        self.assert_web(drawn((1, ((0, 0),)), 0), 1, ())

    def test_a_tie_beside_the_drawn_one_becomes_a_loop(self):
        self.assert_web(drawn((2, ((0, 1), (0, 1), (1, 1))), 0), 1, ((0, 0), (0, 0)))

    def test_a_cut_by_itself(self):
        self.assert_web(drawn((2, ((0, 1),)), 0), 1, ())
        self.assert_web(drawn((4, ((0, 3), (1, 2))), 0), 3, ((1, 2),))

    def test_many_webs(self):
        for web in many_webs():
            for tie in range(len(web[1])):
                points, ties = drawn_anew(web, tie)
                self.assert_web(drawn(web, tie), points, ties)
                left = [other for number, other in enumerate(web[1]) if number != tie]
                self.assert_web(without(web, tie), web[0], tuple(left))

    def test_what_comes_is_a_web(self):
        for web in many_webs():
            for tie in range(len(web[1])):
                for told in (drawn(web, tie), without(web, tie)):
                    self.assertEqual(web_of(told[0], list(told[1])), told)

    def test_a_number_that_is_no_ties_is_refused(self):
        for web in many_webs():
            many = len(web[1])
            for tie in (many, many + 1, -1, -many, -many - 1, 100, HUGE, -HUGE):
                if not 0 <= tie < many:
                    self.assert_no_tie(without, web, tie)
                    self.assert_no_tie(drawn, web, tie)

    def test_by_the_names_of_the_parameters(self):
        web = (2, ((0, 1), (1, 1)))
        self.assert_web(without(tie=0, web=web), 2, ((1, 1),))
        self.assert_web(drawn(tie=0, web=web), 1, ((0, 0),))


TRIANGLE = (3, ((0, 1), (1, 2), (0, 2)))
PATH = (3, ((1, 2), (0, 1)))
TAILED = (4, ((0, 3), (1, 3), (2, 3), (1, 1)))


def loops(many):
    return (1, ((0, 0),) * many)


class PutTogether(Asking):
    def test_side_by_side_the_second_is_numbered_behind(self):
        self.assert_web(beside(TRIANGLE, PATH), 6, ((0, 1), (1, 2), (0, 2), (4, 5), (3, 4)))
        self.assert_web(beside(PATH, TRIANGLE), 6, ((1, 2), (0, 1), (3, 4), (4, 5), (3, 5)))
        self.assert_web(beside((1, ()), TAILED), 5, ((1, 4), (2, 4), (3, 4), (2, 2)))
        self.assert_web(beside(TAILED, (1, ())), 5, TAILED[1])

    def test_joined_the_two_points_are_one(self):
        self.assert_web(joined(TRIANGLE, 2, PATH, 0), 5, ((0, 1), (1, 2), (0, 2), (3, 4), (2, 3)))
        self.assert_web(joined(TRIANGLE, 0, PATH, 1), 5, ((0, 1), (1, 2), (0, 2), (0, 4), (0, 3)))
        # 5 becomes 1: the tie (4, 5) is turned so that it rises.
        self.assert_web(joined(TRIANGLE, 1, PATH, 2), 5, ((0, 1), (1, 2), (0, 2), (1, 4), (3, 4)))
        self.assert_web(joined(PATH, 0, TRIANGLE, 2), 5, ((1, 2), (0, 1), (3, 4), (0, 4), (0, 3)))

    def test_joined_at_a_loop(self):
        self.assert_web(joined(loops(1), 0, loops(2), 0), 1, ((0, 0),) * 3)
        self.assert_web(joined(PATH, 1, TAILED, 1), 6, ((1, 2), (0, 1), (3, 5), (1, 5), (4, 5), (1, 1)))

    def test_joined_is_what_comes_of_drawing_a_tie_between_the_two(self):
        for one in (TRIANGLE, PATH, (2, ()), loops(2)):
            for other in (TRIANGLE, PATH, (2, ((0, 1), (1, 1))), loops(1)):
                for point in range(one[0]):
                    for place in range(other[0]):
                        both = beside(one, other)
                        tied = (both[0], ((point, one[0] + place),) + both[1])
                        points, ties = drawn_anew(tied, 0)
                        self.assert_web(joined(one, point, other, place), points, ties)

    def test_six_points_and_seven(self):
        for first in range(1, 7):
            for second in range(1, 7):
                one, other = (first, ()), (second, ((0, 0),))
                if first + second > 6:
                    self.assert_no_web(None, beside, one, other)
                else:
                    self.assert_web(beside(one, other), first + second, ((first, first),))
                if first + second > 7:
                    self.assert_no_web(None, joined, one, first - 1, other, 0)
                else:
                    self.assert_web(joined(one, first - 1, other, 0), first + second - 1,
                                    ((first - 1, first - 1),))

    def test_nine_ties_and_ten(self):
        for first in range(10):
            for second in range(10):
                one, other = loops(first), loops(second)
                if first + second > 9:
                    self.assert_no_web(None, beside, one, other)
                    self.assert_no_web(None, joined, one, 0, other, 0)
                else:
                    self.assert_web(beside(one, other), 2, ((0, 0),) * first + ((1, 1),) * second)
                    self.assert_web(joined(one, 0, other, 0), 1, ((0, 0),) * (first + second))

    def test_too_many_points_and_ties_at_once(self):
        great = (6, ((0, 5),) * 9)
        self.assert_no_web(None, beside, great, great)
        self.assert_no_web(None, joined, great, 5, great, 5)

    def test_by_the_names_of_the_parameters(self):
        self.assert_web(beside(other=PATH, one=TRIANGLE), 6, ((0, 1), (1, 2), (0, 2), (4, 5), (3, 4)))
        self.assert_web(joined(place=2, other=PATH, point=1, one=TRIANGLE), 5,
                        ((0, 1), (1, 2), (0, 2), (1, 4), (3, 4)))
        self.assert_no_web(None, joined, one=TAILED, point=3, other=TAILED, place=0)


if __name__ == "__main__":
    unittest.main()
