"""How a web is written, as in `3: 0-1 0-1 2-2`, and read again."""

from tietable.errors import NoText
from tietable.webs import web_of

FIGURES = "0123456789"


def read_web(text):
    words = text.split(" ")
    if not is_written_number(words[0]):
        raise NoText("a web begins with its number of points, one figure, and a colon")
    for word in words[1:]:
        if not is_written_tie(word):
            raise NoText("behind the points stands, for each tie, a blank and A-B, one figure each")
    return web_of(int(words[0][0]), [(int(word[0]), int(word[2])) for word in words[1:]])


def shown_web(web):
    written = [written_tie(tie) for tie in web[1]]
    return " ".join([written_number(web[0])] + written)


def is_written_number(word):
    return len(word) == 2 and word[0] in FIGURES and word[1] == ":"


def is_written_tie(word):
    return len(word) == 3 and word[0] in FIGURES and word[1] == "-" and word[2] in FIGURES


def written_number(points):
    return f"{points}:"


def written_tie(tie):
    first = tie[0]
    second = tie[1]
    return f"{first}-{second}"
