"""How many arrows are without a round, how many have each tie in one, how many pairs with colours there are."""

from tietable.apart import table_of
from tietable.colours import colours_count
from tietable.tables import worth


def ringless_count(web):
    return worth(table_of(web), 2, 0)


def rounds_count(web):
    return worth(table_of(web), 0, 2)


def pairs_count(web, many):
    # What the table tells of so many colours below 0 is, but for its sign, the number of these pairs.
    return abs(colours_count(web, -many))
