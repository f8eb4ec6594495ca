"""Nets: happenings that come again each beat, and the spans between them."""

from hourtable.errors import TooGreat
from hourtable.wholes import greatest_whole, is_within

MOST_HAPPENINGS = 16
MOST_SPANS = 40
MOST_WEIGHT = 1000000000000


def are_ends(many, start, goal):
    """Tell of any two things whether they are unlike happenings, of so many."""
    return is_within(start, 0, many - 1) and is_within(goal, 0, many - 1) and start != goal


def are_lengths(beat, least, most):
    """Tell of any two things whether they are a span's least and most by a beat."""
    if not is_within(least, 0, greatest_whole()):
        return False
    return is_within(most, least, min(least + beat - 1, greatest_whole()))


def is_span(beat, many, thing):
    """Tell of anything whether it is a span of a net of this beat and so many happenings."""
    if not isinstance(thing, tuple) or len(thing) != 5:
        return False
    if not are_ends(many, thing[0], thing[1]) or not are_lengths(beat, thing[2], thing[3]):
        return False
    return is_within(thing[4], 0, MOST_WEIGHT)


def is_net(thing):
    """Tell of anything whether it is a net."""
    if not isinstance(thing, tuple) or len(thing) != 3:
        return False
    beat = thing[0]
    many = thing[1]
    spans = thing[2]
    if not is_within(beat, 1, greatest_whole()) or not is_within(many, 1, MOST_HAPPENINGS):
        return False
    if not isinstance(spans, tuple) or len(spans) > MOST_SPANS:
        return False
    return all([is_span(beat, many, span) for span in spans])


def width_of(net, span):
    """Most less least of the span of this number."""
    least = net[2][span][2]
    most = net[2][span][3]
    return most - least


def with_spans(net, more):
    """The net with more spans, a list, behind its own, or TooGreat."""
    spans = net[2] + tuple(more)
    if len(spans) > MOST_SPANS:
        raise TooGreat(len(spans), MOST_SPANS)
    return (net[0], net[1], spans)
