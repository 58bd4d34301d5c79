"""Arrows on the ties of a web: an order of the points or a round, and of a tie a round or a cut one way."""

from tietable.errors import NoArrows
from tietable.webs import refuse_tie


def arrow_order(web, arrows):
    refuse_arrows(web, arrows)
    for tie in range(len(web[1])):
        told = round_or_cut(web, arrows, tie)
        if told[0] == "round":
            return told
    return ("order", points_in_order(web, arrows))


def tie_told(web, arrows, tie):
    refuse_arrows(web, arrows)
    refuse_tie(web, tie)
    return round_or_cut(web, arrows, tie)


def round_or_cut(web, arrows, tie):
    ways = ways_from(web, arrows, head(web, arrows, tie))
    begin = tail(web, arrows, tie)
    if begin in ways:
        return ("round", [tie] + ways[begin])
    # No arrow leads from a point that is reached to one that isn't: so all between the two lead out of the others.
    return ("cut", tuple([point for point in range(web[0]) if point not in ways]))


def refuse_arrows(web, arrows):
    if len(arrows) != len(web[1]) or not all([arrow in (0, 1) for arrow in arrows]):
        raise NoArrows("arrows are a tuple with 0 or 1 for each tie of the web")


def tail(web, arrows, tie):
    return web[1][tie][arrows[tie]]


def head(web, arrows, tie):
    return web[1][tie][1 - arrows[tie]]


def ways_from(web, arrows, start):
    # For each point that one comes to by the arrows a shortest row of ties: so it meets no point twice.
    ways = {start: []}
    waiting = [start]
    while len(waiting) > 0:
        point = waiting.pop(0)
        for tie in range(len(web[1])):
            reached = head(web, arrows, tie)
            if tail(web, arrows, tie) == point and reached not in ways:
                ways[reached] = ways[point] + [tie]
                waiting.append(reached)
    return ways


def points_in_order(web, arrows):
    # Asked only where there is no round: then some point that is left has no arrow from another one that is left.
    order = []
    left = list(range(web[0]))
    while len(left) > 0:
        led_to = [head(web, arrows, tie) for tie in range(len(web[1])) if tail(web, arrows, tie) in left]
        point = [one for one in left if one not in led_to][0]
        order.append(point)
        left.remove(point)
    return order
