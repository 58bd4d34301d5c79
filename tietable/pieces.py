"""How the ties of a web meet: at which points, and in which pieces some points part them."""

from tietable.rings import all_ties, members, put_together


def ties_at(web, some):
    # For each point, those of some ties that touch it.
    return [tuple([tie for tie in some if point in web[1][tie]]) for point in range(web[0])]


def shape(web, some):
    # How some ties meet, whatever the numbers of the points: two webs with one shape differ by those alone.
    return tuple(sorted([row for row in ties_at(web, some) if len(row) > 0]))


def lone_points(web):
    return [point for point, row in enumerate(ties_at(web, all_ties(web))) if len(row) == 0]


def pieces(web, points):
    # Ties that meet at another point than these are in one piece.
    rows = ties_at(web, all_ties(web))
    return classes(web, [row for point, row in enumerate(rows) if point not in points])


def piece_with(web, points, tie):
    return [piece for piece in pieces(web, points) if tie in piece][0]


def classes(web, rows):
    leasts = list(all_ties(web))
    for row in rows:
        for tie in row:
            leasts = put_together(leasts, leasts[row[0]], leasts[tie])
    return [members(leasts, least) for least in sorted(set(leasts))]
