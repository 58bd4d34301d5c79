"""Moves of a web, which keep all its rings: joins, twists and splits."""

from tietable.errors import NoMove
from tietable.rings import all_ties, least_of_each
from tietable.webs import MOST_POINTS, number_as_one, rising_tie


def moved(web, move):
    if not is_move(web, move):
        raise NoMove(f"{move} is no move of this web")
    told = changed(web, move)
    return (told[0], tuple([rising_tie(tie[0], tie[1]) for tie in told[1]]))


def is_move(web, move):
    if len(move) == 3 and move[0] == "join":
        return is_join(web, move[1], move[2])
    if len(move) == 4 and move[0] == "twist":
        return is_twist(web, move[1], move[2], move[3])
    if len(move) == 3 and move[0] == "split":
        return is_split(web, move[1], move[2])
    return False


def is_join(web, one, other):
    if not are_rising_points(web, one, other):
        return False
    leasts = least_of_each(web, all_ties(web))
    return leasts[one] != leasts[other]


def is_twist(web, one, other, some):
    return are_rising_points(web, one, other) and is_set(web, some) and meets_only_at(web, some, (one, other))


def is_split(web, point, some):
    if web[0] >= MOST_POINTS or not is_point(web, point):
        return False
    return is_set(web, some) and meets_only_at(web, some, (point,))


def is_point(web, point):
    return isinstance(point, int) and 0 <= point < web[0]


def are_rising_points(web, one, other):
    return is_point(web, one) and is_point(web, other) and one < other


def is_set(web, some):
    return isinstance(some, tuple) and tuple([tie for tie in all_ties(web) if tie in some]) == some


def meets_only_at(web, some, points):
    met = touched(web, [tie for tie in all_ties(web) if tie not in some])
    return all([point in points or point not in met for point in touched(web, some)])


def touched(web, some):
    return [web[1][tie][0] for tie in some] + [web[1][tie][1] for tie in some]


def changed(web, move):
    # What a move makes of the web, each tie's two ends left at their places: so A may come to be above B.
    if move[0] == "join":
        names = dict([(point, number_as_one(point, move[1], move[2])) for point in range(web[0])])
        return (web[0] - 1, renamed(web, all_ties(web), names))
    if move[0] == "twist":
        return (web[0], renamed(web, move[3], {move[1]: move[2], move[2]: move[1]}))
    return (web[0] + 1, renamed(web, move[2], {move[1]: web[0]}))


def renamed(web, some, names):
    ties = list(web[1])
    for tie in some:
        ends = web[1][tie]
        ties[tie] = (names.get(ends[0], ends[0]), names.get(ends[1], ends[1]))
    return tuple(ties)
