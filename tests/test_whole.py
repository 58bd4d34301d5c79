"""The promise over the whole program [3]: many ways, one table."""

import unittest

from samples import GREAT_WEBS, orders_of, reckoned_webs, small_webs
from tietable.apart import table_of
from tietable.arrows import arrow_order, tie_told
from tietable.colours import colours_count
from tietable.counts import ringless_count, rounds_count
from tietable.flows import flows_count
from tietable.moves import moved
from tietable.orders import sorted_table
from tietable.rings import is_cut
from tietable.tables import added, multiplied, worth
from tietable.webs import beside, drawn, without

WEBS = small_webs()[::17] + reckoned_webs(25) + GREAT_WEBS


def table_by_picking(web, pick):
    """The web taken apart at the tie that is picked, each time anew."""
    if not web[1]:
        return [(0, 0, 1)]
    tie = pick(web)
    if web[1][tie][0] == web[1][tie][1]:
        return multiplied(table_by_picking(without(web, tie), pick), [(0, 1, 1)])
    if is_cut(web, (tie,)):
        return multiplied(table_by_picking(drawn(web, tie), pick), [(1, 0, 1)])
    return added(table_by_picking(without(web, tie), pick), table_by_picking(drawn(web, tie), pick))


PICKS = [
    lambda web: 0,
    lambda web: len(web[1]) - 1,
    lambda web: len(web[1]) // 2,
    lambda web: min(range(len(web[1])), key=lambda tie: web[1][tie]),
    lambda web: (web[0] * 7 + len(web[1]) * 5) % len(web[1]),
]


class OneTable(unittest.TestCase):
    def test_whichever_tie_is_taken_next(self):
        for web in WEBS:
            for pick in PICKS:
                self.assertEqual(table_by_picking(web, pick), table_of(web), web)

    def test_whatever_the_order_of_the_ties(self):
        for web in WEBS[::3]:
            for order in orders_of(web, 6):
                self.assertEqual(sorted_table(web, order), table_of(web))

    def test_webs_taken_apart_tell_colours_and_flows(self):
        for web in WEBS:
            for tie, (a, b) in enumerate(web[1]):
                if a != b:
                    less, one = without(web, tie), drawn(web, tie)
                    for many in range(1, 5):
                        self.assertEqual(colours_count(web, many), colours_count(less, many) - colours_count(one, many))
                        self.assertEqual(flows_count(web, many), flows_count(one, many) - flows_count(less, many))

    def test_arrows_of_each_kind_are_what_the_table_tells(self):
        for web in WEBS[::4]:
            ties = range(len(web[1]))
            every = [tuple(number >> tie & 1 for tie in ties) for number in range(2 ** len(ties))]
            if len(ties) <= 6:
                kinds = [[tie_told(web, arrows, tie)[0] for tie in ties] for arrows in every]
                self.assertEqual(sum("round" not in kind for kind in kinds), ringless_count(web))
                self.assertEqual(sum("cut" not in kind for kind in kinds), rounds_count(web))
                self.assertEqual(sum(arrow_order(web, arrows)[0] == "order" for arrows in every),
                                 worth(table_of(web), 2, 0))

    def test_side_by_side_and_joined_by_a_move(self):
        one, other = (3, ((0, 1), (1, 2), (0, 2))), (2, ((0, 1), (0, 1), (1, 1)))
        both = beside(one, other)
        for point in range(3):
            for place in range(3, 5):
                self.assertEqual(table_of(moved(both, ("join", point, place))), table_of(both))


if __name__ == "__main__":
    unittest.main()
