"""The desk: its rows, its answers, what is refused and which refusal comes first [29]."""

import unittest

from samples import GREAT_WEBS, many_webs, reckoned_webs
from tietable.apart import table_of
from tietable.between import moves_between
from tietable.colours import colours_count, fewest_colours
from tietable.counts import ringless_count, rounds_count
from tietable.desk import Desk
from tietable.errors import NoHours, NoMatch, NoName, NoRow, NoText, NoTie, NoWeb
from tietable.flows import flows_count
from tietable.forests import forests
from tietable.tables import worth
from tietable.texts import shown_web

TEN = "9999999999"
ELEVEN = "10000000000"

# Of each row one that stands.
ROWS = {
    "web": "web c 2: 0-1",
    "without": "without c a 0",
    "drawn": "drawn c a 0",
    "beside": "beside c a b",
    "joined": "joined c a 0 b 1",
    "show": "show a",
    "table": "table a",
    "worth": "worth a 2 3",
    "forests": "forests a",
    "colours": "colours a 3",
    "flows": "flows a 3",
    "fewest": "fewest a",
    "ringless": "ringless a",
    "rounds": "rounds a",
    "same": "same a a",
}
# Rows with a place for a number, and one that does there.
NUMBERS_AT = [("without c a {}", 0), ("drawn c a {}", 0), ("joined c a {} b 0", 0), ("joined c a 0 b {}", 0),
              ("worth a {} 1", 0), ("worth a 1 {}", 0), ("colours a {}", 0), ("flows a {}", 1)]
NO_NUMBERS = ["", "x", "+1", "01", "00", "-0", "-00", "-01", "--1", "-", "1-", "1.0", "1,0", "1_0", "0x1", "1e3", "1a",
              "\t1", "1\n", "\n", "1\t", "one", ELEVEN, "-" + ELEVEN, "00000000001", "1" * 40, ".", "a"]


def two_webs():
    desk = Desk()
    desk.say("web a 3: 0-1 1-2 0-2")
    desk.say("web b 2: 0-1 0-1")
    return desk


class Saying(unittest.TestCase):
    def setUp(self):
        self.desk = two_webs()

    def assert_said(self, row, due):
        told = self.desk.say(row)
        self.assertEqual(told, due, row)
        self.assertIs(type(told), str)

    def assert_refused(self, due, row):
        """Refused with just this class, and nothing is changed by it."""
        before = self.all_shown()
        with self.assertRaises(due, msg=repr(row)):
            self.desk.say(row)
        self.assertEqual(self.all_shown(), before, row)

    def all_shown(self):
        told = []
        for name in ("a", "b", "c", "new", "old", "toolonger", "A", ""):
            try:
                told.append(self.desk.say("show " + name))
            except NoName:
                told.append(None)
        return told


class Webs(Saying):
    def test_a_web_stands_by_its_name(self):
        self.assert_said("web new 3: 0-1 0-1 2-2", "ok")
        self.assert_said("show new", "3: 0-1 0-1 2-2")
        self.assert_said("web x 1:", "ok")
        self.assert_said("show x", "1:")

    def test_in_the_place_of_one_that_stood_so(self):
        self.assert_said("web a 1: 0-0", "ok")
        self.assert_said("show a", "1: 0-0")
        self.assert_said("show b", "2: 0-1 0-1")

    def test_names_of_one_to_eight_small_letters(self):
        for name in ("a", "z", "az", "abcdefgh", "zzzzzzzz", "web", "show", "none"):
            self.assert_said(f"web {name} 4: 2-3", "ok")
            self.assert_said(f"show {name}", "4: 2-3")

    def test_taken_apart(self):
        self.assert_said("without c a 1", "ok")
        self.assert_said("show c", "3: 0-1 0-2")
        self.assert_said("drawn d a 1", "ok")
        self.assert_said("show d", "2: 0-1 0-1")
        self.assert_said("show a", "3: 0-1 1-2 0-2")

    def test_put_together(self):
        self.assert_said("beside c a b", "ok")
        self.assert_said("show c", "5: 0-1 1-2 0-2 3-4 3-4")
        self.assert_said("joined d a 2 b 1", "ok")
        self.assert_said("show d", "4: 0-1 1-2 0-2 2-3 2-3")
        self.assert_said("joined e b 0 a 2", "ok")
        self.assert_said("show e", "4: 0-1 0-1 2-3 0-3 0-2")

    def test_the_new_name_may_be_that_of_a_web_that_is_taken(self):
        self.assert_said("without a a 0", "ok")
        self.assert_said("show a", "3: 1-2 0-2")
        self.assert_said("beside b b b", "ok")
        self.assert_said("show b", "4: 0-1 0-1 2-3 2-3")
        self.assert_said("drawn a a 1", "ok")
        self.assert_said("show a", "2: 0-1")

    def test_a_web_that_was_made_of_another_stays_when_that_one_goes(self):
        self.desk.say("without c a 0")
        self.desk.say("web a 1:")
        self.assert_said("show c", "3: 1-2 0-2")

    def test_two_desks_keep_nothing_of_one_another(self):
        other = Desk()
        self.assertRaises(NoName, other.say, "show a")
        other.say("web a 6:")
        self.assert_said("show a", "3: 0-1 1-2 0-2")


class Answers(Saying):
    def test_of_a_triangle(self):
        for row, due in [
            ("show a", "3: 0-1 1-2 0-2"), ("table a", "0.1.1 1.0.1 2.0.1"), ("worth a 2 0", "6"), ("worth a 0 2", "2"),
            ("worth a -2 -5", "-3"), ("worth a 0 0", "0"), ("forests a", "3"), ("colours a 0", "0"),
            ("colours a 3", "6"), ("flows a 1", "0"), ("flows a 5", "4"), ("fewest a", "3"), ("ringless a", "6"),
            ("rounds a", "2"), ("same a a", "moves 0"),
        ]:
            self.assert_said(row, due)

    def test_of_one_point(self):
        self.desk.say("web c 1:")
        for row, due in [("show c", "1:"), ("table c", "0.0.1"), ("worth c 0 0", "1"), ("forests c", "1"),
                         ("colours c 7", "7"), ("flows c 1", "1"), ("fewest c", "1"), ("ringless c", "1"),
                         ("rounds c", "1"), ("same c c", "moves 0")]:
            self.assert_said(row, due)

    def test_with_a_loop_there_are_no_colours(self):
        self.desk.say("web c 2: 0-1 1-1")
        self.assert_said("fewest c", "none")
        self.assert_said("colours c 5", "0")
        self.assert_said("ringless c", "0")

    def test_great_numbers(self):
        number = int(TEN)
        self.assert_said(f"worth a {TEN} -{TEN}", str(number ** 2))
        self.assert_said(f"worth a -{TEN} {TEN}", str(number ** 2))
        self.assert_said(f"colours a {TEN}", str(number * (number - 1) * (number - 2)))
        self.assert_said(f"flows a {TEN}", str(number - 1))

    def test_the_same_rings_or_not(self):
        self.desk.say("web p 3: 0-1 1-2")
        self.desk.say("web q 4: 0-1 2-3")
        self.desk.say("web r 2: 0-1 1-1")
        self.assert_said("same p q", "moves 1")
        self.assert_said("same q p", "moves 1")
        self.assert_said("same p p", "moves 0")
        self.assert_said("same p r", "ring 1")
        self.assert_said("same b p", "ring 0 1")
        self.assert_said("same p b", "ring 0 1")

    def test_many_webs(self):
        for web in GREAT_WEBS + reckoned_webs(40) + many_webs()[::60]:
            self.assert_said("web c " + shown_web(web), "ok")
            self.assert_said("show c", shown_web(web))
            self.assert_said("table c", " ".join(f"{i}.{j}.{times}" for i, j, times in table_of(web)))
            self.assert_said("worth c -3 7", str(worth(table_of(web), -3, 7)))
            self.assert_said("forests c", str(len(forests(web))))
            self.assert_said("colours c 4", str(colours_count(web, 4)))
            self.assert_said("flows c 4", str(flows_count(web, 4)))
            few = fewest_colours(web)
            self.assert_said("fewest c", "none" if few is None else str(few))
            self.assert_said("ringless c", str(ringless_count(web)))
            self.assert_said("rounds c", str(rounds_count(web)))

    def test_same_tells_what_is_told_between_the_two(self):
        webs = [web for web in reckoned_webs(300, points=5, ties=6) if len(web[1]) == 3][:20]
        for one in webs:
            for other in webs:
                self.desk.say("web c " + shown_web(one))
                self.desk.say("web d " + shown_web(other))
                told = moves_between(one, other)
                if told[0] == "moves":
                    self.assert_said("same c d", f"moves {len(told[1])}")
                else:
                    self.assert_said("same c d", " ".join(["ring"] + [str(tie) for tie in told[1]]))

    def test_what_is_asked_changes_nothing(self):
        before = self.all_shown()
        for word, row in ROWS.items():
            if not row.startswith(("web", "without", "drawn", "beside", "joined")):
                self.desk.say(row)
        self.assertEqual(self.all_shown(), before)

    def test_by_the_name_of_the_parameter(self):
        self.assertEqual(self.desk.say(row="show a"), "3: 0-1 1-2 0-2")


class NoRows(Saying):
    def test_each_row_stands(self):
        for row in ROWS.values():
            self.assertIs(type(two_webs().say(row)), str)

    def test_by_their_first_word(self):
        for row in ["", " ", "  ", "x", "a", "shows a", "Show a", "SHOW a", "show\ta", "show\n", " show a", "  show a",
                    "webs c 2:", "Web c 2:", "web\tc 2:", " web c 2: 0-1", "moves a b", "ring a", "arrows a", "ok",
                    "colors a 3", "without\n", "-show a", "0", "show,a"]:
            self.assert_refused(NoRow, row)

    def test_by_the_number_of_their_words(self):
        for word, row in ROWS.items():
            if word != "web":
                self.assert_refused(NoRow, row + " a")
                self.assert_refused(NoRow, row + " 0")
                self.assert_refused(NoRow, row.rpartition(" ")[0])
            self.assert_refused(NoRow, word)
            if len(row.split(" ")) > 3:
                self.assert_refused(NoRow, " ".join(row.split(" ")[:2]))
        self.assert_refused(NoRow, "web c")

    def test_two_blanks_or_one_at_an_end_make_a_word_without_signs(self):
        for word, row in ROWS.items():
            self.assert_refused(NoRow, " " + row)
            if word != "web":
                self.assert_refused(NoRow, row + " ")
                for place in range(len(row)):
                    if row[place] == " ":
                        self.assert_refused(NoRow, row[:place] + " " + row[place:])
            if word in ("show", "table", "forests", "fewest", "ringless", "rounds"):
                self.assert_refused(NoName, word + " ")

    def test_by_the_writing_of_their_numbers(self):
        for row, good in NUMBERS_AT:
            self.assertIs(type(two_webs().say(row.format(good))), str)
            for word in NO_NUMBERS:
                self.assert_refused(NoRow, row.format(word))

    def test_numbers_that_are_written_so(self):
        for word in ("0", "1", "10", "-1", "-10", TEN, "-" + TEN, "100", "1234567890", "-1000000000"):
            x = int(word)
            self.assert_said(f"worth a {word} 0", str(x * x + x))
            self.assert_said(f"worth a 0 {word}", str(x))

    def test_colours_below_0(self):
        for word in ("-1", "-2", "-" + TEN):
            self.assert_refused(NoRow, f"colours a {word}")
            self.assert_refused(NoRow, f"colours nobody {word}")
            self.assert_refused(NoRow, f"colours A {word}")
        self.assert_refused(NoName, "colours nobody 0")


class NoNames(Saying):
    def test_a_new_one_that_is_none(self):
        for name in ("A", "aB", "a1", "1", "a-b", "a_b", "abcdefghi", "toolonger", "a\n", "\ta", "a.", "-", "a:", ""):
            for row in ("web {} 2: 0-1", "without {} a 0", "drawn {} a 0", "beside {} a b", "joined {} a 0 b 0"):
                self.assert_refused(NoName, row.format(name))

    def test_one_by_which_no_web_stands(self):
        for name in ("c", "nobody", "A", "ab", "", "0", "toolonger", "a\n", "abcdefghijkl"):
            for row in ("without c {} 0", "drawn c {} 0", "beside c {} b", "beside c a {}", "joined c {} 0 b 0",
                        "joined c a 0 {} 0", "show {}", "table {}", "worth {} 1 1", "forests {}", "colours {} 3",
                        "flows {} 3", "fewest {}", "ringless {}", "rounds {}", "same {} a", "same a {}", "same {} {}"):
                self.assert_refused(NoName, row.replace("{}", name))

    def test_a_row_that_is_none_is_told_ahead(self):
        for row, good in NUMBERS_AT:
            for word in ("", "01", "x", "-0", ELEVEN):
                bad = row.format(word).replace(" a ", " nobody ").replace(" c ", " C ")
                self.assert_refused(NoRow, bad)
        self.assert_refused(NoRow, "show nobody a")
        self.assert_refused(NoRow, "web C")
        self.assert_refused(NoRow, "same nobody")

    def test_names_are_refused_ahead_of_what_the_stages_refuse(self):
        for row in ("web C nothing", "web C 9: 9-0", "web  3: 0-1", "without C a 9", "without c nobody 9",
                    "drawn C a -1", "drawn c nobody -1", "joined C a 9 b 9", "joined c nobody 9 b 9",
                    "joined c a 9 nobody 9", "joined c a -1 nobody 0", "flows nobody 0", "same nobody b"):
            self.assert_refused(NoName, row)


class WhatTheStagesRefuse(Saying):
    def test_texts_and_webs(self):
        for text in ("", " ", "3", "3: ", "3:0-1", " 3: 0-1", "3: 0-1 ", "3:  0-1", "x", "10:", "3: 0-1\n"):
            self.assert_refused(NoText, "web c " + text)
            self.assert_refused(NoText, "web a " + text)
        for text, place in (("0:", None), ("7:", None), ("2:" + " 0-1" * 10, None), ("3: 0-1 1-0", 1), ("1: 0-1", 0)):
            self.assert_refused(NoWeb, "web c " + text)
            with self.assertRaises(NoWeb) as caught:
                self.desk.say("web a " + text)
            self.assertEqual(caught.exception.place, place)

    def test_ties_that_the_web_has_not(self):
        for word in ("3", "4", "-1", "-3", TEN, "-" + TEN):
            for row in ("without c a ", "drawn c a ", "without a a ", "drawn b a "):
                self.assert_refused(NoTie, row + word)
            with self.assertRaises(NoTie) as caught:
                self.desk.say("drawn c a " + word)
            self.assertEqual(caught.exception.tie, int(word))

    def test_points_that_the_web_has_not(self):
        for word in ("3", "-1", "-3", TEN, "-" + TEN):
            self.assert_refused(NoRow, f"joined c a {word} b 0")
            self.assert_refused(NoRow, f"joined a a {word} b {word}")
            self.assert_refused(NoRow, f"joined c b 0 a {word}")
        self.assert_refused(NoRow, "joined c a 0 b 2")
        self.assert_refused(NoRow, "joined c b 2 a 0")

    def test_too_many_points_or_ties(self):
        self.desk.say("web big 6: 0-5")
        self.desk.say("web full 1:" + " 0-0" * 9)
        for row in ("beside c big a", "beside big big big", "joined c big 5 a 0", "beside c full a",
                    "joined full full 0 a 0"):
            self.assert_refused(NoWeb, row)
        self.assert_said("show big", "6: 0-5")
        self.assert_said("show full", "1:" + " 0-0" * 9)
        self.assert_refused(NoRow, "joined c big 6 a 0")
        self.assert_refused(NoRow, "joined c big 0 a 3")

    def test_hours_below_1(self):
        for word in ("0", "-1", "-" + TEN):
            self.assert_refused(NoHours, "flows a " + word)

    def test_webs_of_unlike_many_ties(self):
        self.assert_refused(NoMatch, "same a b")
        self.assert_refused(NoMatch, "same b a")


if __name__ == "__main__":
    unittest.main()
