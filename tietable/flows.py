"""Flows of a web by so many hours: how many there are, and one of them."""

from tietable.apart import table_of
from tietable.errors import NoHours
from tietable.forests import forests, outside, ring_with
from tietable.rings import all_ties, rank
from tietable.tables import worth


def flows_count(web, hours):
    refuse_hours(hours)
    every = all_ties(web)
    count = worth(table_of(web), 0, 1 - hours)
    return count if (len(every) - rank(web, every)) % 2 == 0 else -count


def flow(web, hours):
    # What goes along the ties outside a forest, each round its ring, settles what goes along the forest's ties.
    refuse_hours(hours)
    forest = forests(web)[0]
    rows = [ring_row(web, forest, tie) for tie in outside(web, forest)]
    return filled_further(rows, [0 for tie in web[1]], hours)


def refuse_hours(hours):
    if hours < 1:
        raise NoHours(f"hours are from 1 on, not {hours}")


def filled_further(rows, amounts, hours):
    if any([amounts[tie] % hours == 0 for tie in settled(rows, len(amounts))]):
        return None
    if len(rows) == 0:
        return tuple([amount % hours for amount in amounts])
    for times in range(1, hours):
        more = [amount + times * step for amount, step in zip(amounts, rows[0])]
        found = filled_further(rows[1:], more, hours)
        if found is not None:
            return found
    return None


def settled(rows, many):
    return [tie for tie in range(many) if all([row[tie] == 0 for row in rows])]


def ring_row(web, forest, tie):
    # For each tie 1 where the ring goes along it from A to B, -1 where from B to A, else 0.
    row = [0 for other in web[1]]
    row[tie] = 1
    left = [other for other in ring_with(web, forest, tie) if other != tie]
    point = web[1][tie][1]
    while len(left) > 0:
        other = [one for one in left if point in web[1][one]][0]
        ends = web[1][other]
        row[other] = 1 if ends[0] == point else -1
        point = ends[1] if ends[0] == point else ends[0]
        left.remove(other)
    return row
