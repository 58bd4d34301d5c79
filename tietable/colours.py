"""Colourings of a web: how many there are, one of them, and the fewest colours."""

from tietable.apart import table_of
from tietable.rings import all_ties, parts
from tietable.tables import taken, worth


def colours_count(web, many):
    parted = len(parts(web, all_ties(web)))
    count = taken(many, parted) * worth(table_of(web), 1 - many, 0)
    return count if (web[0] - parted) % 2 == 0 else -count


def colouring(web, many):
    if has_loop(web):
        return None
    # More colours than points are never needed.
    return coloured_further(web, (), min(many, web[0]))


def fewest_colours(web):
    if has_loop(web):
        return None
    many = 1
    while colouring(web, many) is None:
        many = many + 1
    return many


def coloured_further(web, begun, many):
    if len(begun) == web[0]:
        return begun
    for colour in range(many):
        if fits(web, begun, colour):
            found = coloured_further(web, begun + (colour,), many)
            if found is not None:
                return found
    return None


def fits(web, begun, colour):
    # The next point is the greater one of each tie to a point that is coloured already.
    point = len(begun)
    return all([begun[tie[0]] != colour for tie in web[1] if tie[1] == point])


def has_loop(web):
    return any([tie[0] == tie[1] for tie in web[1]])
