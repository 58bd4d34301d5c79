"""How a web is written and read [8]."""

import unittest

from samples import GREAT_WEBS, many_webs, reckoned_webs
from tietable.errors import NoText, NoWeb
from tietable.texts import read_web, shown_web

WRITTEN = [
    ("3: 0-1 0-1 2-2", (3, ((0, 1), (0, 1), (2, 2)))),
    ("1:", (1, ())),
    ("6:", (6, ())),
    ("1: 0-0", (1, ((0, 0),))),
    ("6: 4-5 0-5", (6, ((4, 5), (0, 5)))),
    ("2: 0-1 0-1 0-1 0-1 0-1 0-1 0-1 0-1 0-1", (2, ((0, 1),) * 9)),
]

NOT_WRITTEN = [
    "", " ", ":", "-", "3", "3 ", "3:0-1", "3 : 0-1", "3: ", "3:  ", "3: 0-1 ", " 3: 0-1", "3:  0-1", "3: 0-1  0-1",
    "3: 0-1  ", "3: 0", "3: 0-", "3: -1", "3: 01", "3: 0--1", "3: 0-1-2", "3: 0-1,0-1", "3: 0-1\t0-2", "3:\t0-1",
    "3: 0-1\n", "\n3: 0-1", "3:\n", "3: 0 - 1", "3: 0- 1", "3: a-1", "3: 0-b", "x: 0-1", "3; 0-1", "3: 0_1", "3: 0:1",
    "03: 0-1", "10:", "3: 0-10", "3: 00-1", "3: 10-1", "3: 0-01", "-1:", "+3:", "-3: 0-1", "3: +0-1", "3: 0-+1",
    "3:: 0-1", "3: 3: 0-1", ": 0-1", "0-1", "0-1 3:", "3: 0-1 3:", "3.: 0-1", "3: 0-1;", "3: (0, 1)", "3: 0-1 x",
    "3: x 0-1", "3: 0-1 0", "web a 3:", "3:0", "33", "3: 0-1 0-1 2-2 ",
]


class ReadAndShown(unittest.TestCase):
    def test_as_written(self):
        for text, web in WRITTEN:
            self.assertEqual(read_web(text), web)
            self.assertEqual(shown_web(web), text)

    def test_what_is_shown_is_read_as_the_same_web(self):
        for web in many_webs() + reckoned_webs(200):
            self.assertEqual(read_web(shown_web(web)), web)

    def test_the_kind_of_what_is_told(self):
        for web in GREAT_WEBS:
            text = shown_web(web)
            self.assertIs(type(text), str)
            told = read_web(text)
            self.assertIs(type(told), tuple)
            self.assertIs(type(told[0]), int)
            self.assertIs(type(told[1]), tuple)
            for tie in told[1]:
                self.assertIs(type(tie), tuple)
                self.assertTrue(all(type(point) is int for point in tie))

    def test_by_the_names_of_the_parameters(self):
        self.assertEqual(read_web(text="2: 0-1"), (2, ((0, 1),)))
        self.assertEqual(shown_web(web=(2, ((0, 1),))), "2: 0-1")


class Refused(unittest.TestCase):
    def assert_no_web(self, text, place):
        with self.assertRaises(NoWeb) as caught:
            read_web(text)
        self.assertEqual(caught.exception.place, place, text)

    def test_what_is_not_written_so(self):
        for text in NOT_WRITTEN:
            with self.assertRaises(NoText, msg=repr(text)):
                read_web(text)

    def test_one_sign_put_in_left_out_or_exchanged(self):
        """Whatever is read with one thing amiss is shown again just as it was written, so it was written right."""
        for text in ("3: 0-1 0-1 2-2", "1:", "6: 4-5"):
            for place in range(len(text) + 1):
                for sign in ["", " ", ":", "-", "0", "1", "9", "a", "\n", ".", "+", "_"]:
                    for end in (place, place + 1):
                        amiss = text[:place] + sign + text[end:]
                        try:
                            told = read_web(amiss)
                        except NoWeb:
                            self.assertRegex(amiss, r"\A[0-9]:( [0-9]-[0-9])*\Z")
                        except NoText:
                            self.assertNotRegex(amiss, r"\A[0-9]:( [0-9]-[0-9])*\Z")
                        else:
                            self.assertEqual(shown_web(told), amiss)

    def test_then_what_is_no_web(self):
        for text in ("0:", "7:", "8:", "9:", "0: 0-0", "7: 0-1", "2:" + " 0-1" * 10, "9:" + " 9-0" * 12):
            self.assert_no_web(text, None)
        self.assert_no_web("3: 1-0", 0)
        self.assert_no_web("3: 0-1 0-3", 1)
        self.assert_no_web("3: 0-1 2-2 3-3 1-0", 2)
        self.assert_no_web("1: 0-1", 0)
        self.assert_no_web("6: 0-9", 0)
        self.assert_no_web("2:" + " 0-1" * 8 + " 1-0", 8)

    def test_what_is_not_written_so_is_told_ahead_of_what_is_no_web(self):
        for text in ("0: 0-1 ", "7: x", "3: 1-0 0", "3: 1-0 ", "9:0-1", "2:" + " 0-1" * 10 + " ", "0: 1-0 10-1",
                     "3: 0-3 0-1  1-2"):
            self.assertRaises(NoText, read_web, text)


if __name__ == "__main__":
    unittest.main()
