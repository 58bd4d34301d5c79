"""A desk keeps webs by names, is told rows and answers each with a text."""

from tietable.apart import table_of
from tietable.between import moves_between
from tietable.colours import colours_count, fewest_colours
from tietable.counts import ringless_count, rounds_count
from tietable.errors import NoName, NoRow
from tietable.flows import flows_count
from tietable.forests import forests
from tietable.lines import read_line
from tietable.tables import worth
from tietable.texts import read_web, shown_web
from tietable.webs import beside, drawn, joined, without

LETTERS = "abcdefghijklmnopqrstuvwxyz"
MOST_LETTERS = 8


class Desk:
    def __init__(self):
        self.webs = {}

    def say(self, row):
        line = read_line(row)
        word = line[0]
        handed = line[1]
        for kind, value in handed:
            self.refuse_name(kind, value)
        values = [self.webs[value] if kind == "name" else value for kind, value in handed]
        if handed[0][0] == "new":
            self.webs[values[0]] = made_web(word, values[1:])
            return "ok"
        return answer(word, values)

    def refuse_name(self, kind, value):
        if kind == "new" and not is_name(value):
            raise NoName("a name has one to eight small letters")
        if kind == "name" and value not in self.webs:
            raise NoName("no web stands by this name")


def is_name(word):
    return 1 <= len(word) <= MOST_LETTERS and all([sign in LETTERS for sign in word])


def made_web(word, values):
    if word == "web":
        return read_web(values[0])
    if word == "without":
        return without(values[0], values[1])
    if word == "drawn":
        return drawn(values[0], values[1])
    if word == "beside":
        return beside(values[0], values[1])
    refuse_point(values[0], values[1])
    refuse_point(values[2], values[3])
    return joined(values[0], values[1], values[2], values[3])


def refuse_point(web, point):
    if not 0 <= point < web[0]:
        raise NoRow(f"the web has no point {point}")


def answer(word, values):
    if word == "show":
        return shown_web(values[0])
    if word == "table":
        return shown_table(table_of(values[0]))
    if word == "same":
        return shown_between(moves_between(values[0], values[1]))
    if word == "fewest":
        return shown_fewest(fewest_colours(values[0]))
    return str(number_told(word, values))


def number_told(word, values):
    if word == "worth":
        return worth(table_of(values[0]), values[1], values[2])
    if word == "forests":
        return len(forests(values[0]))
    if word == "colours":
        return colours_count(values[0], values[1])
    if word == "flows":
        return flows_count(values[0], values[1])
    if word == "ringless":
        return ringless_count(values[0])
    return rounds_count(values[0])


def shown_table(table):
    return " ".join([f"{i}.{j}.{times}" for i, j, times in table])


def shown_between(told):
    if told[0] == "moves":
        many = len(told[1])
        return f"moves {many}"
    return " ".join(["ring"] + [str(tie) for tie in told[1]])


def shown_fewest(many):
    return "none" if many is None else str(many)
