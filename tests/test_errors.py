"""The classes of refusals, and what is raised in them."""

import unittest

from tietable import errors
from tietable.arrows import arrow_order, tie_told
from tietable.between import moves_between
from tietable.desk import Desk
from tietable.drawings import faces, on_floor, turned_web
from tietable.flows import flow, flows_count
from tietable.forests import cut_of, ring_of
from tietable.moves import moved
from tietable.orders import free, home, kept, sorted_table
from tietable.texts import read_web
from tietable.webs import beside, drawn, joined, web_of, without

NAMES = ["NoWeb", "NoTie", "NoText", "NoForest", "NoOrder", "NoHours", "NoArrows", "Apart",
         "NoTurns", "NoFloor", "NoMove", "NoMatch", "NoRow", "NoName"]
CLASSES = [getattr(errors, name) for name in NAMES]

TWO = (2, ((0, 1),))
FOUR = (4, ((0, 1), (1, 2), (2, 3)))
LOOPS = (1, ((0, 0),) * 5)

REFUSED = [
    (errors.NoWeb, lambda: web_of(0, [])),
    (errors.NoWeb, lambda: web_of(1, [(0, 0)] * 10)),
    (errors.NoWeb, lambda: web_of(2, [(1, 0)])),
    (errors.NoTie, lambda: without(TWO, 1)),
    (errors.NoTie, lambda: drawn(TWO, -1)),
    (errors.NoWeb, lambda: beside(FOUR, FOUR)),
    (errors.NoWeb, lambda: beside(LOOPS, LOOPS)),
    (errors.NoWeb, lambda: joined(FOUR, 0, FOUR, 0)),
    (errors.NoWeb, lambda: joined(LOOPS, 0, LOOPS, 0)),
    (errors.NoText, lambda: read_web("3: 0-1 ")),
    (errors.NoWeb, lambda: read_web("7:")),
    (errors.NoForest, lambda: ring_of(FOUR, (0, 1), 0)),
    (errors.NoForest, lambda: cut_of(FOUR, (0, 1), 9)),
    (errors.NoTie, lambda: ring_of(TWO, (0,), 0)),
    (errors.NoTie, lambda: cut_of(LOOPS, (), 0)),
    (errors.NoForest, lambda: kept(TWO, [], ())),
    (errors.NoOrder, lambda: free(TWO, [], (0,))),
    (errors.NoOrder, lambda: home(TWO, [1], (0,))),
    (errors.NoOrder, lambda: sorted_table(TWO, [0, 0])),
    (errors.NoHours, lambda: flows_count(TWO, 0)),
    (errors.NoHours, lambda: flow(TWO, -1)),
    (errors.NoArrows, lambda: arrow_order(TWO, ())),
    (errors.NoArrows, lambda: tie_told(TWO, (2,), 0)),
    (errors.NoTie, lambda: tie_told(TWO, (0,), 1)),
    (errors.Apart, lambda: faces((2, ()), ())),
    (errors.NoTurns, lambda: on_floor(TWO, ((), ()))),
    (errors.NoMove, lambda: moved(TWO, ("join", 0, 1))),
    (errors.NoMatch, lambda: moves_between(TWO, FOUR)),
    (errors.NoRow, lambda: Desk().say("")),
    (errors.NoName, lambda: Desk().say("show a")),
    (errors.NoText, lambda: Desk().say("web a ")),
    (errors.NoFloor, lambda: turned_web((1, ((0, 0),) * 2), (((0, 0), (1, 0), (0, 1), (1, 1)),))),
]


class TheClasses(unittest.TestCase):
    def test_there_are_fourteen_unlike_ones_under_their_names(self):
        self.assertEqual(len(set(CLASSES)), 14)
        self.assertEqual([one.__name__ for one in CLASSES], NAMES)

    def test_any_refusal_is_a_value_error(self):
        self.assertEqual(errors.WebError.__bases__, (ValueError,))

    def test_each_stands_under_the_one_and_under_none_of_the_others(self):
        for one in CLASSES:
            self.assertTrue(issubclass(one, errors.WebError), one)
            for other in CLASSES:
                self.assertEqual(issubclass(one, other), one is other, (one, other))

    def test_each_object_has_its_fields(self):
        self.assertEqual(errors.NoWeb("words", 3).place, 3)
        self.assertIsNone(errors.NoWeb("words", None).place)
        self.assertEqual(errors.NoTie("words", -4).tie, -4)


class WhatIsRaised(unittest.TestCase):
    def test_each_refusal_is_caught_by_its_own_class_and_those_above_alone(self):
        for due, ask in REFUSED:
            with self.assertRaises(ValueError) as caught:
                ask()
            self.assertIsInstance(caught.exception, errors.WebError)
            met = [one for one in CLASSES if isinstance(caught.exception, one)]
            self.assertEqual(met, [due])

    def test_each_is_caught_as_any_refusal(self):
        for due, ask in REFUSED:
            self.assertRaises(errors.WebError, ask)
            self.assertRaises(due, ask)


if __name__ == "__main__":
    unittest.main()
