"""Tables: a time within the beat for each happening of a net, and how they keep its spans."""

from hourtable.nets import width_of
from hourtable.wholes import is_within


def is_table(net, thing):
    """Tell of anything whether it is a table of a net."""
    if not isinstance(thing, tuple) or len(thing) != net[1]:
        return False
    return all([is_within(time, 0, net[0] - 1) for time in thing])


def rest_by(beat, number):
    """The number from 0 to beat less 1 that differs from a whole number by some beats."""
    return number % beat


def wait_in(net, table, span):
    """The wait in a table of the span of this number."""
    start = net[2][span][0]
    goal = net[2][span][1]
    least = net[2][span][2]
    return rest_by(net[0], table[goal] - table[start] - least)


def waits_of(net, table):
    """The tuple of the waits in a table, span by span."""
    return tuple([wait_in(net, table, span) for span in range(len(net[2]))])


def broken_in(net, table):
    """The rising tuple of the numbers of the spans that a table doesn't keep."""
    waits = waits_of(net, table)
    return tuple([span for span, wait in enumerate(waits) if wait > width_of(net, span)])


def fits(net, table):
    """Tell whether a table keeps all spans."""
    return len(broken_in(net, table)) == 0


def wait_of(net, table):
    """What a table waits, also where it doesn't fit."""
    return sum([span[4] * wait for span, wait in zip(net[2], waits_of(net, table))])


def moved_by(net, table, number):
    """The table with all times moved by a whole number."""
    return tuple([rest_by(net[0], time + number) for time in table])
