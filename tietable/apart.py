"""The table of a web, reckoned by taking the web apart, one tie behind the other."""

from tietable.rings import is_cut, is_ring
from tietable.tables import added, multiplied
from tietable.webs import drawn, without


def table_of(web):
    # Which tie goes next makes no difference to the table; the first one is always there.
    if len(web[1]) == 0:
        return [(0, 0, 1)]
    if is_ring(web, (0,)):
        return multiplied(table_of(without(web, 0)), [(0, 1, 1)])
    if is_cut(web, (0,)):
        return multiplied(table_of(drawn(web, 0)), [(1, 0, 1)])
    return added(table_of(without(web, 0)), table_of(drawn(web, 0)))
