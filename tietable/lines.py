"""The rows that a desk is told: which there are, and how they and their numbers are written."""

from tietable.errors import NoRow
from tietable.texts import FIGURES

MOST_FIGURES = 10

# Behind the first word: a name for a web that comes, names of webs that stand, numbers (`many` from 0 on), a text.
FORMS = {
    "web": ("new", "text"),
    "without": ("new", "name", "number"),
    "drawn": ("new", "name", "number"),
    "beside": ("new", "name", "name"),
    "joined": ("new", "name", "number", "name", "number"),
    "show": ("name",),
    "table": ("name",),
    "worth": ("name", "number", "number"),
    "forests": ("name",),
    "colours": ("name", "many"),
    "flows": ("name", "number"),
    "fewest": ("name",),
    "ringless": ("name",),
    "rounds": ("name",),
    "same": ("name", "name"),
}


def read_line(row):
    # Told is the first word, and a list of tuples of what stands behind it: its kind and itself, numbers as such.
    words = row.split(" ")
    if words[0] not in FORMS:
        raise NoRow("no row begins so")
    kinds = FORMS[words[0]]
    handed = words_behind(words, kinds)
    if len(handed) != len(kinds):
        raise NoRow("a row that begins so has another number of words")
    return (words[0], [(kind, value_of(kind, word)) for kind, word in zip(kinds, handed)])


def words_behind(words, kinds):
    # A text is all that follows, blanks and all; it must at least be there, be it empty.
    if kinds[-1] == "text" and len(words) > len(kinds):
        return words[1:len(kinds)] + [" ".join(words[len(kinds):])]
    return words[1:]


def value_of(kind, word):
    if kind not in ("number", "many"):
        return word
    if not is_number(word):
        raise NoRow("a number is not written so")
    if kind == "many" and int(word) < 0:
        raise NoRow("this number is from 0 on")
    return int(word)


def is_number(word):
    figures = word[1:] if word.startswith("-") else word
    if not 1 <= len(figures) <= MOST_FIGURES or not all([sign in FIGURES for sign in figures]):
        return False
    return figures[0] != "0" or word == "0"
