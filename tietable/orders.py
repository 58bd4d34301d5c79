"""Orders of the ties: which ties of a forest are kept, which outside it are free, and the table by them."""

from tietable.errors import NoOrder
from tietable.forests import cut_with, forests, outside, refuse_forest, ring_with
from tietable.rings import all_ties, rank
from tietable.tables import gathered


def kept(web, order, forest):
    refuse_forest(web, forest)
    refuse_order(web, order)
    return kept_ties(web, order, forest)


def free(web, order, forest):
    refuse_forest(web, forest)
    refuse_order(web, order)
    return free_ties(web, order, forest)


def home(web, order, some):
    # A free tie of the set comes first in its ring, and that ring lies in the set: so the forest has of the set
    # the latest ties that make no ring. A kept tie beyond the set comes first in its cut: so the forest has
    # beyond the set the first ties that make no ring.
    refuse_order(web, order)
    within = [tie for tie in order if tie in some]
    beyond = [tie for tie in order if tie not in some]
    forest = ()
    for tie in list(reversed(within)) + beyond:
        if rank(web, forest + (tie,)) > len(forest):
            forest = forest + (tie,)
    return tuple(sorted(forest))


def sorted_table(web, order):
    refuse_order(web, order)
    return gathered([(len(kept_ties(web, order, forest)), len(free_ties(web, order, forest)), 1)
                     for forest in forests(web)])


def refuse_order(web, order):
    every = all_ties(web)
    if len(order) != len(every) or not all([tie in order for tie in every]):
        raise NoOrder("an order is a list with each tie of the web once")


def kept_ties(web, order, forest):
    return tuple([tie for tie in forest if tie == first_of(order, cut_with(web, forest, tie))])


def free_ties(web, order, forest):
    return tuple([tie for tie in outside(web, forest) if tie == first_of(order, ring_with(web, forest, tie))])


def first_of(order, some):
    return min(some, key=lambda tie: order.index(tie))
