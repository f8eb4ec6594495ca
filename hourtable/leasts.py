"""The table that waits least of all that fit, with a tree that shows that none waits less."""

from hourtable.finding import MOST_CASES, dead_leaf, table_for, tables_that_fit, tree_by
from hourtable.forests import rings_of
from hourtable.rings import is_sure
from hourtable.tables import wait_of
from hourtable.trees import worth_of


def price_leaf(net, rings, bounds):
    """The price leaf by which the spans ahead of the sure ones of these rings have no price of their own."""
    # So their weights lie on the forest's spans: where those have each one length left, the worth is just the wait.
    rows = [(net[2][ring[0][0]][4], ring) for ring in rings if is_sure(net, bounds, ring)]
    return ("price", tuple([row for row in rows if row[0] > 0]))


def leaf_by(net, rings, wait, case):
    """The leaf by which no table of a case waits less than this, or None where the case is still too wide."""
    dead = dead_leaf(net, case)
    if dead is not None:
        return dead
    leaf = price_leaf(net, rings, case[0])
    return leaf if worth_of(net, case[0], leaf) >= wait else None


def best_for(net):
    """("best", table, wait, tree) with some table that waits least, or ("none", tree), or TooGreat."""
    found = table_for(net)
    if found[0] == "none":
        return found
    table = min(tables_that_fit(net, MOST_CASES), key=lambda other: wait_of(net, other))
    wait = wait_of(net, table)
    rings = rings_of(net)
    return ("best", table, wait, tree_by(net, lambda case: leaf_by(net, rings, wait, case)))
