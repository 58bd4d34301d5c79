"""Of a set of ties of a web: its parts and its rank, and whether it is a ring or a cut."""


def parts(web, some):
    leasts = least_of_each(web, some)
    return [members(leasts, least) for least in sorted(set(leasts))]


def rank(web, some):
    return web[0] - len(parts(web, some))


def is_ring(web, some):
    if len(some) == 0 or rank(web, some) >= len(some):
        return False
    return all([rank(web, left) == len(left) for left in each_left_out(some)])


def is_cut(web, some):
    every = all_ties(web)
    full = rank(web, every)
    rest = tuple([tie for tie in every if tie not in some])
    if len(some) == 0 or rank(web, rest) >= full:
        return False
    return all([rank(web, rest + (tie,)) == full for tie in some])


def all_ties(web):
    return tuple(range(len(web[1])))


def all_sets(web):
    sets = [()]
    for tie in all_ties(web):
        sets = sets + [some + (tie,) for some in sets]
    return sorted(sets)


def least_of_each(web, some):
    # For each point the least point of its part: so two are in one part just where theirs are the same.
    leasts = list(range(web[0]))
    for tie in some:
        ends = web[1][tie]
        leasts = put_together(leasts, leasts[ends[0]], leasts[ends[1]])
    return leasts


def put_together(leasts, one, other):
    return [min(one, other) if least in (one, other) else least for least in leasts]


def members(leasts, least):
    return tuple([point for point, other in enumerate(leasts) if other == least])


def each_left_out(some):
    return [some[:place] + some[place + 1:] for place in range(len(some))]
