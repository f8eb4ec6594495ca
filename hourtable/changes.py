"""Tables changed for another net: which happenings stay, and how few can be moved."""

from hourtable.finding import MOST_CASES, table_for, tables_that_fit
from hourtable.forests import spread_of
from hourtable.nets import with_spans
from hourtable.rings import leads_from, leads_to
from hourtable.tables import rest_by


def pin_between(net, table, one, other):
    """The span by which two happenings stay just so far apart as in a table."""
    length = rest_by(net[0], table[other] - table[one])
    return (one, other, length, length, 0)


def pinned(net, table, some):
    """The net pinned to a table for some happenings, or TooGreat."""
    return with_spans(net, [pin_between(net, table, one, other) for one, other in zip(some, some[1:])])


def parts_of(net):
    """The list of the parts of a net that no spans join, each a rising list of happenings."""
    firsts = list(range(net[1]))
    for step in spread_of(net):
        firsts[leads_to(net, step)] = firsts[leads_from(net, step)]
    parts = {}
    for happening, first in enumerate(firsts):
        parts.setdefault(first, []).append(happening)
    return list(parts.values())


def shifts_between(net, one, other):
    """The list of how far, by rests, the times of one table lie behind those of another."""
    return [rest_by(net[0], time - base) for time, base in zip(one, other)]


def moved_in_parts(net, parts, table, shifts):
    """The table with each part moved by its own number of these."""
    times = list(table)
    for part, shift in zip(parts, shifts):
        for happening in part:
            times[happening] = rest_by(net[0], table[happening] + shift)
    return tuple(times)


def held_at_firsts(net, parts, table, other):
    """The other table with each part moved so that its first happening has the table's time."""
    shifts = shifts_between(net, table, other)
    return moved_in_parts(net, parts, other, [shifts[part[0]] for part in parts])


def commonest(numbers):
    """The number that stands most often in a list."""
    return max(numbers, key=lambda number: numbers.count(number))


def held_at_most(net, parts, table, other):
    """The other table with each part moved so that as many happenings as can be have the table's times."""
    shifts = shifts_between(net, table, other)
    return moved_in_parts(net, parts, other, [commonest([shifts[happening] for happening in part]) for part in parts])


def others_in(table, other):
    """The rising tuple of the happenings at which two tables have unlike times."""
    return tuple([happening for happening in range(len(table)) if table[happening] != other[happening]])


def staying(net, table):
    """("stay", some, other): the happenings that stay, and some table that fits so; or ("none", tree), or TooGreat."""
    found = table_for(net)
    if found[0] == "none":
        return found
    parts = parts_of(net)
    # The first happening of each part always stays: so each table that fits has just one move of each part to be asked.
    tables = [held_at_firsts(net, parts, table, other) for other in tables_that_fit(net, MOST_CASES)]
    some = []
    for happening in range(net[1]):
        holding = [other for other in tables if other[happening] == table[happening]]
        if len(holding) > 0:
            some.append(happening)
            tables = holding
    return ("stay", tuple(some), tables[0])


def fewest_moved(net, table):
    """("moved", some, other): as few happenings as can be, and some table that fits so; or ("none", tree), TooGreat."""
    found = table_for(net)
    if found[0] == "none":
        return found
    parts = parts_of(net)
    tables = [held_at_most(net, parts, table, other) for other in tables_that_fit(net, MOST_CASES)]
    nearest = min(tables, key=lambda other: len(others_in(table, other)))
    return ("moved", others_in(table, nearest), nearest)
