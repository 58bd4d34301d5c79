"""What is handed in stays as it was; what is told is new and the asker's own [2]."""

import unittest

from samples import GREAT_WEBS, sets_of
from tietable.errors import NoWeb
from tietable.rings import is_cut, is_ring, parts, rank
from tietable.webs import beside, drawn, joined, web_of, without


class HandedIn(unittest.TestCase):
    def test_a_list_of_ties_stays_as_it_was(self):
        ties = [(1, 2), (0, 1), (0, 0)]
        web_of(3, ties)
        self.assertEqual(ties, [(1, 2), (0, 1), (0, 0)])

    def test_a_list_that_is_refused_stays_as_it_was(self):
        for points, ties in [(3, [(0, 1), (2, 1), (0, 5)]), (0, [(0, 0)]), (2, [(0, 1)] * 10)]:
            before = list(ties)
            self.assertRaises(NoWeb, web_of, points, ties)
            self.assertEqual(ties, before)

    def test_what_is_done_to_it_afterwards_changes_no_web(self):
        ties = [(1, 2), (0, 1)]
        web = web_of(3, ties)
        ties.append((0, 2))
        ties[0] = (0, 0)
        self.assertEqual(web, (3, ((1, 2), (0, 1))))
        ties.clear()
        self.assertEqual(web, (3, ((1, 2), (0, 1))))
        self.assertEqual(rank(web, (0, 1)), 2)

    def test_a_web_and_a_set_stay_as_they_were(self):
        web = web_of(3, [(0, 2), (1, 2), (2, 2)])
        other = web_of(2, [(0, 1)])
        some = (0, 1)
        for ask in (parts, rank, is_ring, is_cut):
            ask(web, some)
        without(web, 0)
        drawn(web, 0)
        beside(web, other)
        joined(web, 2, other, 0)
        self.assertEqual(web, (3, ((0, 2), (1, 2), (2, 2))))
        self.assertEqual(other, (2, ((0, 1),)))
        self.assertEqual(some, (0, 1))


class Told(unittest.TestCase):
    def test_a_list_that_was_told_and_changed_is_told_anew_as_it_was(self):
        for web in GREAT_WEBS:
            for some in sets_of(web):
                first = parts(web, some)
                before = list(first)
                first.append((99,))
                first[0] = (77, 78)
                second = parts(web, some)
                self.assertEqual(second, before)
                self.assertIsNot(first, second)
                first.clear()
                self.assertEqual(second, before)

    def test_asking_more_changes_nothing_that_was_told(self):
        web = (4, ((0, 1), (2, 3), (1, 2)))
        first = parts(web, (0, 1))
        parts(web, (0, 1, 2))
        parts(web, ())
        drawn(web, 0)
        self.assertEqual(first, [(0, 1), (2, 3)])


if __name__ == "__main__":
    unittest.main()
