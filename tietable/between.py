"""Moves that lead from one web to another, or a ring that just one of both has.

The way, where all rings are the same: points without ties that are too many are joined to others; each block is
twisted until its ties meet as in the other web; the blocks are brought together, one behind the other, where they
hang together in the other web; what is apart there is split; points without ties that are too few are split off.
Only the last two make points, no more than the other web has: so no seventh one comes up on the way.
"""

from tietable.errors import NoMatch
from tietable.moves import changed, touched
from tietable.pieces import classes, lone_points, piece_with, pieces, shape, ties_at
from tietable.rings import all_sets, all_ties, is_ring, least_of_each


# A web and the moves that led to it. The two ends of a tie keep their places, so A may come to be above B.
class Walk:
    def __init__(self, web):
        self.web = web
        self.moves = []

    def go(self, move):
        self.web = changed(self.web, move)
        self.moves.append(move)


def moves_between(one, other):
    if len(one[1]) != len(other[1]):
        raise NoMatch("the two webs have not as many ties")
    rings = [some for some in all_sets(one) if is_ring(one, some)]
    for some in all_sets(other):
        if is_ring(other, some) != (some in rings):
            return ("ring", some)
    walk = Walk(one)
    if not is_same(one, other):
        # Ties that lie in one ring are in one block.
        lead_over(walk, other, classes(one, rings))
    return ("moves", walk.moves, names_in(walk.web, other))


def is_same(one, other):
    every = all_ties(one)
    return one[0] == other[0] and shape(one, every) == shape(other, every)


def names_in(web, other):
    names = [0 for point in range(web[0])]
    for point, name in zip(points_by_ties(web), points_by_ties(other)):
        names[point] = name
    return names


def points_by_ties(web):
    # Points with the very same ties may be exchanged, so any order among them does.
    rows = ties_at(web, all_ties(web))
    return sorted(range(web[0]), key=lambda point: rows[point])


def lead_over(walk, other, blocks):
    join_lone_points(walk, len(lone_points(other)))
    for block in blocks:
        for move in twists_to(walk.web, block, shape(other, block)):
            walk.go(move)
    walk.web = (walk.web[0], ends_as_in(walk.web, other, blocks))
    bring_blocks_together(walk, other, blocks)
    split_parts(walk, other)
    while walk.web[0] < other[0]:
        walk.go(("split", 0, ()))


def join_lone_points(walk, many):
    lone = lone_points(walk.web)
    while len(lone) > many:
        point = 1 if lone[-1] == 0 else 0
        walk.go(joining(point, lone[-1]))
        lone = lone_points(walk.web)


def joining(one, other):
    return ("join", min(one, other), max(one, other))


def twisting(one, other, some):
    return ("twist", min(one, other), max(one, other), some)


def twists_to(web, block, goal):
    # The fewest twists after which the block has this shape: as its rings are the same, there are such.
    seen = {shape(web, block): True}
    waiting = [(web, [])]
    while shape(waiting[0][0], block) != goal:
        begun = waiting.pop(0)
        for move in twists_of(begun[0], block):
            twisted = changed(begun[0], move)
            if shape(twisted, block) not in seen:
                seen[shape(twisted, block)] = True
                waiting.append((twisted, begun[1] + [move]))
    return waiting[0][1]


def twists_of(web, block):
    points = sorted(set(touched(web, block)))
    told = []
    for place, one in enumerate(points):
        for other in points[place + 1:]:
            for piece in pieces(web, (one, other)):
                if any([tie in block for tie in piece]):
                    told.append(twisting(one, other, piece))
    return told


def ends_as_in(web, other, blocks):
    # The ties with the end first that is, within their block, what A is in the other web.
    ties = list(web[1])
    for block in blocks:
        here = ties_at(web, block)
        there = ties_at(other, block)
        for tie in block:
            first = min(web[1][tie])
            second = max(web[1][tie])
            # In a block of two points both have the same ties: there the lesser one is first for all of them.
            if here[first] == there[other[1][tie][0]]:
                ties[tie] = (first, second)
            else:
                ties[tie] = (second, first)
    return tuple(ties)


def bring_blocks_together(walk, other, blocks):
    placed = []
    left = list(blocks)
    while len(left) > 0:
        hanging = [block for block in left if len(shared_points(other, block, placed)) > 0]
        block = (hanging + left)[0]
        for point in shared_points(other, block, placed):
            bring_to(walk, block, end_at(other, block, point), end_at(other, placed, point))
        placed.extend(block)
        left.remove(block)


def shared_points(web, block, placed):
    met = touched(web, placed)
    return [point for point in sorted(set(touched(web, block))) if point in met]


def end_at(web, some, point):
    first = [tie for tie in some if point in web[1][tie]][0]
    return (first, 0 if web[1][first][0] == point else 1)


def bring_to(walk, block, end, goal):
    # The point of the one end and that of the other become one; what hangs on the block goes with it.
    here = walk.web[1][end[0]][end[1]]
    there = walk.web[1][goal[0]][goal[1]]
    leasts = least_of_each(walk.web, all_ties(walk.web))
    if here == there:
        return
    if leasts[here] != leasts[there]:
        walk.go(joining(here, there))
        return
    near = nearest(walk.web, block, there)
    branch = piece_with(walk.web, (near,), block[0])
    if near != here:
        walk.go(twisting(near, here, branch))
    if near != there:
        walk.go(twisting(near, there, branch))


def nearest(web, block, goal):
    # The point of the block at which it hangs on what leads to the goal.
    points = sorted(set(touched(web, block)))
    return [point for point in points
            if point == goal or goal not in touched(web, piece_with(web, (point,), block[0]))][0]


def split_parts(walk, other):
    leasts = least_of_each(other, all_ties(other))
    groups = [leasts[tie[0]] for tie in other[1]]
    move = split_between(walk.web, groups)
    while move is not None:
        walk.go(move)
        move = split_between(walk.web, groups)


def split_between(web, groups):
    # A split at a point where ties of two groups meet, or None.
    for point, row in enumerate(ties_at(web, all_ties(web))):
        others = [tie for tie in row if groups[tie] != groups[row[0]]]
        if len(others) > 0:
            some = [tie for tie in others if groups[tie] == groups[others[0]]]
            return ("split", point, hanging_at(web, point, some))
    return None


def hanging_at(web, point, some):
    # These ties at a point and all that hangs on them beyond it.
    told = []
    for piece in pieces(web, (point,)):
        if any([tie in some for tie in piece]):
            told.extend(piece)
    return tuple(sorted(told))
