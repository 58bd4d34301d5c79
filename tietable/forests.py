"""Forests of a web, and of a forest and a tie the one ring or the one cut."""

from tietable.errors import NoForest, NoTie
from tietable.rings import all_sets, all_ties, rank


def forests(web):
    full = rank(web, all_ties(web))
    return [some for some in all_sets(web) if len(some) == full and rank(web, some) == full]


def ring_of(web, forest, tie):
    refuse_forest(web, forest)
    if tie not in outside(web, forest):
        raise NoTie(f"{tie} is no tie outside this forest", tie)
    return ring_with(web, forest, tie)


def cut_of(web, forest, tie):
    refuse_forest(web, forest)
    if tie not in forest:
        raise NoTie(f"{tie} is no tie of this forest", tie)
    return cut_with(web, forest, tie)


def refuse_forest(web, some):
    if not is_forest(web, some):
        raise NoForest(f"{some} is no forest of this web")


def is_forest(web, some):
    every = all_ties(web)
    # Ties of the web in their order are the tuples of rising numbers, each a tie's.
    if tuple([tie for tie in every if tie in some]) != some:
        return False
    return len(some) == rank(web, every) and rank(web, some) == len(some)


def outside(web, forest):
    return tuple([tie for tie in all_ties(web) if tie not in forest])


def ring_with(web, forest, tie):
    # Just the ties of the ring can be left out so that the others are a forest again.
    more = tuple(sorted(forest + (tie,)))
    return tuple([one for one in more if rank(web, left_out(more, one)) == len(forest)])


def cut_with(web, forest, tie):
    # Just the ties of the cut can be put in the place of the tie so that a forest comes again.
    less = left_out(forest, tie)
    others = sorted(outside(web, forest) + (tie,))
    return tuple([one for one in others if rank(web, less + (one,)) == len(forest)])


def left_out(some, tie):
    return tuple([one for one in some if one != tie])
