"""Nets and tables mirrored, stretched, named anew, and nets side by side."""

from hourtable.errors import NoOrder, OtherBeats, TooGreat
from hourtable.nets import MOST_HAPPENINGS, with_spans
from hourtable.tables import rest_by
from hourtable.wholes import is_whole


def mirrored_span(span):
    """The span with its start and goal exchanged."""
    return (span[1], span[0], span[2], span[3], span[4])


def mirrored(net):
    """The net with each span's start and goal exchanged."""
    return (net[0], net[1], tuple([mirrored_span(span) for span in net[2]]))


def table_mirrored(net, table):
    """The table with the rests of its times taken off from 0."""
    return tuple([rest_by(net[0], -time) for time in table])


def stretched_span(span, number):
    """The span with its least and most so many times as great."""
    return (span[0], span[1], span[2] * number, span[3] * number, span[4])


def stretched(net, number):
    """The net with beat, leasts and mosts so many times as great."""
    return (net[0] * number, net[1], tuple([stretched_span(span, number) for span in net[2]]))


def table_stretched(table, number):
    """The table with times so many times as great."""
    return tuple([time * number for time in table])


def span_named(span, names):
    """The span between the happenings that are named so anew: names has at each old number the new one."""
    return (names[span[0]], names[span[1]], span[2], span[3], span[4])


def is_order(net, thing):
    """Tell of anything whether it is an order of a net's happenings."""
    if not isinstance(thing, tuple) or not all([is_whole(part) for part in thing]):
        return False
    return sorted(thing) == list(range(net[1]))


def check_order(net, order):
    """Refuse with NoOrder what is no order of a net's happenings."""
    if not is_order(net, order):
        raise NoOrder("an order has each happening of the net just once")


def named_anew(net, order):
    """The net whose happening number k is the one that stands in an order at place k, or NoOrder."""
    check_order(net, order)
    names = [order.index(happening) for happening in range(net[1])]
    return (net[0], net[1], tuple([span_named(span, names) for span in net[2]]))


def table_named_anew(net, table, order):
    """The table whose time at place k is that of the happening that stands in an order at place k, or NoOrder."""
    check_order(net, order)
    return tuple([table[happening] for happening in order])


def side_by_side(one, other):
    """The net of two of one beat, the other's happenings and spans numbered on, or OtherBeats, TooGreat."""
    if one[0] != other[0]:
        raise OtherBeats("nets of unlike beats don't stand side by side")
    many = one[1] + other[1]
    if many > MOST_HAPPENINGS:
        raise TooGreat(many, MOST_HAPPENINGS)
    names = list(range(one[1], many))
    return with_spans((one[0], many, one[2]), [span_named(span, names) for span in other[2]])
