"""Webs drawn by turns: the ends of the ties as they follow one another round each point; faces; the turned web.

The ends of tie K are (K, 0) at its A and (K, 1) at its B.
"""

from tietable.errors import Apart, NoFloor, NoTurns
from tietable.rings import all_ties, parts
from tietable.webs import MOST_POINTS, rising_tie


def faces(web, turns):
    refuse_drawing(web, turns)
    if len(web[1]) == 0:
        return [()]
    following = ends_behind(turns)
    told = []
    gone = []
    # By rising ends, so that each face is begun at its least one, and they come sorted.
    for end in sorted(following):
        if end not in gone:
            face = face_from(following, end)
            told.append(face)
            gone.extend(face)
    return told


def on_floor(web, turns):
    return is_floor(web, len(faces(web, turns)))


def turned_web(web, turns):
    rows = faces(web, turns)
    points = len(rows)
    if not is_floor(web, points):
        raise NoFloor("drawn so, the web is not on a floor")
    if points > MOST_POINTS:
        raise NoFloor(f"turned about, the web would have {points} points")
    places = places_of(rows)
    return (points, tuple([rising_tie(places[(tie, 0)], places[(tie, 1)]) for tie in all_ties(web)]))


def is_floor(web, many):
    return web[0] - len(web[1]) + many == 2


def refuse_drawing(web, turns):
    if len(parts(web, all_ties(web))) > 1:
        raise Apart("the points of this web don't all hang together")
    if len(turns) != web[0]:
        raise NoTurns("turns have a tuple of ends for each point")
    for point, row in enumerate(turns):
        due = ends_at(web, point)
        if len(row) != len(due) or not all([end in row for end in due]):
            raise NoTurns(f"the turns of point {point} are not its ends, each once")


def ends_at(web, point):
    firsts = [(tie, 0) for tie in all_ties(web) if web[1][tie][0] == point]
    seconds = [(tie, 1) for tie in all_ties(web) if web[1][tie][1] == point]
    return firsts + seconds


def ends_behind(turns):
    behind = {}
    for row in turns:
        for place, end in enumerate(row):
            behind[end] = row[(place + 1) % len(row)]
    return behind


def face_from(following, start):
    face = (start,)
    end = next_gone(following, start)
    while end != start:
        face = face + (end,)
        end = next_gone(following, end)
    return face


def next_gone(following, end):
    return following[(end[0], 1 - end[1])]


def places_of(rows):
    places = {}
    for place, row in enumerate(rows):
        for end in row:
            places[end] = place
    return places
