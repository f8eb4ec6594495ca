"""Trees of cases: what they are, and what they show of all tables of a net."""

from hourtable.rings import beats_of, first_bounds, is_dead, is_ring, is_sure
from hourtable.wholes import is_whole, is_within

MOST_ROWS = 40
# A tuple may hold one tuple in many places, so a small thing may have more leaves than can ever be gone through:
# with twice as many as a tree has, a thing counts as no tree.
MOST_LEAVES_WALKED = 20000


def is_headed(thing, word, many):
    """Tell of anything whether it is a tuple of so many parts with this word ahead."""
    return isinstance(thing, tuple) and len(thing) == many and isinstance(thing[0], str) and thing[0] == word


def is_cut(bounds, thing):
    """Tell of anything whether it cuts a span within bounds, whatever its two sides are."""
    if not is_headed(thing, "cut", 5) or not is_within(thing[1], 0, len(bounds) - 1):
        return False
    bound = bounds[thing[1]]
    return is_within(thing[2], bound[0], bound[1] - 1)


def is_row(net, thing):
    """Tell of anything whether it is a row of a price leaf."""
    return isinstance(thing, tuple) and len(thing) == 2 and is_whole(thing[0]) and is_ring(net, thing[1])


def is_leaf(net, thing):
    """Tell of anything whether it is a ring leaf or a price leaf."""
    if is_headed(thing, "ring", 2):
        return is_ring(net, thing[1])
    if not is_headed(thing, "price", 2):
        return False
    rows = thing[1]
    if not isinstance(rows, tuple) or len(rows) > MOST_ROWS:
        return False
    return all([is_row(net, row) for row in rows])


def with_bound(bounds, span, low, high):
    """The bounds with others for one span."""
    return bounds[:span] + ((low, high),) + bounds[span + 1:]


def sides_of(bounds, cut):
    """The two sides of a cut, each as a tuple of its bounds and what stands there."""
    span = cut[1]
    at = cut[2]
    low = bounds[span][0]
    high = bounds[span][1]
    one = (with_bound(bounds, span, low, at), cut[3])
    other = (with_bound(bounds, span, at + 1, high), cut[4])
    return (one, other)


def leaves_in(net, thing):
    """The list of tuples (bounds, leaf) of anything, from the left, or None where it is no tree."""
    leaves = []
    # A list of what is still ahead, its end first, and no call within a call: a thing may be deeper than calls go.
    ahead = [(first_bounds(net), thing)]
    while len(ahead) > 0:
        place = ahead.pop()
        if is_cut(place[0], place[1]):
            sides = sides_of(place[0], place[1])
            ahead.append(sides[1])
            ahead.append(sides[0])
        elif is_leaf(net, place[1]) and len(leaves) < MOST_LEAVES_WALKED:
            leaves.append(place)
        else:
            return None
    return leaves


def is_tree(net, thing):
    """Tell of anything whether it is a tree of a net."""
    return leaves_in(net, thing) is not None


def leaves_of(net, tree):
    """The tuple of tuples (bounds, leaf) of a tree, from the left."""
    return tuple(leaves_in(net, tree))


def is_right(net, bounds, leaf):
    """Tell whether a leaf of a tree is right by its bounds."""
    if leaf[0] == "ring":
        return is_dead(net, bounds, leaf[1])
    return all([is_sure(net, bounds, row[1]) for row in leaf[1]])


def own_prices(net, rows):
    """The list of the spans' own prices by the rows of a price leaf."""
    prices = [span[4] for span in net[2]]
    for row in rows:
        for step in row[1]:
            prices[step[0]] -= row[0] * step[1]
    return prices


def worth_of(net, bounds, leaf):
    """The worth of a right price leaf: no table that fits within its bounds waits less."""
    worth = 0
    for row in leaf[1]:
        worth += row[0] * beats_of(net, bounds, row[1])[0] * net[0]
    for price, bound, span in zip(own_prices(net, leaf[1]), bounds, net[2]):
        worth += price * (bound[1] if price < 0 else bound[0]) - span[4] * span[2]
    return worth


def shown_by(net, thing):
    """What anything shows of all tables as a tree of a net: a tuple, or None."""
    leaves = leaves_in(net, thing)
    if leaves is None or not all([is_right(net, bounds, leaf) for bounds, leaf in leaves]):
        return None
    worths = [worth_of(net, bounds, leaf) for bounds, leaf in leaves if leaf[0] == "price"]
    if len(worths) == 0:
        return ("none",)
    return ("wait", min(worths))
