"""How many arrows are without a round, have each tie in one, and pairs [3, 23]."""

import unittest
from itertools import product

from samples import GREAT_WEBS, many_webs, reckoned_webs
from tietable.apart import table_of
from tietable.arrows import arrow_order, tie_told
from tietable.colours import colours_count
from tietable.counts import pairs_count, ringless_count, rounds_count
from tietable.tables import worth

WEBS = many_webs()[::9] + [web for web in reckoned_webs(60) if len(web[1]) <= 6] + GREAT_WEBS[:1]
HUGE = 9999999999


def all_arrows(web):
    return list(product((0, 1), repeat=len(web[1])))


def ringless_arrows(web):
    return [arrows for arrows in all_arrows(web) if arrow_order(web, arrows)[0] == "order"]


def rounds_by_hand(web):
    return sum(all(tie_told(web, arrows, tie)[0] == "round" for tie in range(len(web[1])))
               for arrows in all_arrows(web))


def pairs_by_hand(web, many):
    count = 0
    for arrows in ringless_arrows(web):
        steps = [tie[::-1] if arrow else tie for tie, arrow in zip(web[1], arrows)]
        for row in product(range(many), repeat=web[0]):
            count += all(row[begin] <= row[end] for begin, end in steps)
    return count


class Counts(unittest.TestCase):
    def test_of_ordinary_webs(self):
        triangle = (3, ((0, 1), (1, 2), (0, 2)))
        self.assertEqual((ringless_count(triangle), rounds_count(triangle)), (6, 2))
        self.assertEqual((ringless_count(GREAT_WEBS[0]), rounds_count(GREAT_WEBS[0])), (24, 24))
        self.assertEqual([pairs_count(triangle, many) for many in range(4)], [0, 6, 24, 60])

    def test_without_ties(self):
        for points in range(1, 7):
            self.assertEqual(ringless_count((points, ())), 1)
            self.assertEqual(rounds_count((points, ())), 1)
            for many in (0, 1, 2, 10):
                self.assertEqual(pairs_count((points, ()), many), many ** points)

    def test_loops_alone(self):
        for many in range(1, 10):
            web = (2, ((0, 0),) * many)
            self.assertEqual(ringless_count(web), 0)
            self.assertEqual(rounds_count(web), 2 ** many)
            self.assertEqual(pairs_count(web, 5), 0)

    def test_ties_between_the_same_two_points(self):
        for many in range(1, 10):
            web = (2, ((0, 1),) * many)
            self.assertEqual(ringless_count(web), 2)
            self.assertEqual(rounds_count(web), 2 ** many - 2)

    def test_by_trying_all_arrows(self):
        for web in WEBS:
            self.assertEqual(ringless_count(web), len(ringless_arrows(web)), web)
            self.assertEqual(rounds_count(web), rounds_by_hand(web), web)

    def test_pairs_by_trying_all(self):
        for web in WEBS:
            for many in range(4 if web[0] < 5 else 3):
                self.assertEqual(pairs_count(web, many), pairs_by_hand(web, many), (web, many))

    def test_no_colours_and_one_colour(self):
        for web in WEBS + GREAT_WEBS:
            self.assertEqual(pairs_count(web, 0), 0)
            self.assertEqual(pairs_count(web, 1), ringless_count(web))

    def test_as_the_table_tells(self):
        for web in WEBS + GREAT_WEBS:
            self.assertEqual(ringless_count(web), worth(table_of(web), 2, 0))
            self.assertEqual(rounds_count(web), worth(table_of(web), 0, 2))
            for many in (0, 1, 2, 5, 10, HUGE):
                self.assertEqual(pairs_count(web, many), abs(colours_count(web, -many)))
                self.assertGreaterEqual(pairs_count(web, many), colours_count(web, many))

    def test_their_kind(self):
        for web in GREAT_WEBS:
            for told in (ringless_count(web), rounds_count(web), pairs_count(web, 3)):
                self.assertIs(type(told), int)

    def test_by_the_names_of_the_parameters(self):
        web = (2, ((0, 1),))
        self.assertEqual(ringless_count(web=web), 2)
        self.assertEqual(rounds_count(web=web), 0)
        self.assertEqual(pairs_count(many=2, web=web), 6)


if __name__ == "__main__":
    unittest.main()
