"""Sums: a way of spans, told as one span more that changes nothing."""

from hourtable.errors import NoWay, TooWide
from hourtable.nets import with_spans
from hourtable.rings import ends_of, first_bounds, is_way, sum_of
from hourtable.tables import rest_by


def span_over(net, way):
    """The span that a way with unlike ends comes to, or TooWide."""
    ends = ends_of(net, way)
    bound = sum_of(first_bounds(net), way)
    width = bound[1] - bound[0]
    if width >= net[0]:
        raise TooWide("the way's lengths can differ by a beat or more, so its sum is no span")
    least = rest_by(net[0], bound[0])
    return (ends[0], ends[1], least, least + width, 0)


def summed(net, way):
    """The net with the sum of a way as a span behind its own, or NoWay (of anything), TooWide, TooGreat."""
    if not is_way(net, way):
        raise NoWay("this is no way of the net")
    ends = ends_of(net, way)
    if ends[0] == ends[1]:
        raise NoWay("the way comes back to its begin")
    return with_spans(net, [span_over(net, way)])
