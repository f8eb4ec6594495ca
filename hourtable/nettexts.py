"""Nets written as texts, and read from them."""

from hourtable.errors import NoText
from hourtable.nets import is_net
from hourtable.wholes import read_whole


def show_net(net):
    """The text that a net is written as."""
    beat = net[0]
    many = net[1]
    rows = [f"beat {beat} happenings {many}"]
    for span in net[2]:
        rows.append(" ".join([str(number) for number in span]))
    return "\n".join(rows)


def read_head(row):
    """The tuple (beat, many) that a net's first row tells, or NoText."""
    words = row.split(" ")
    if len(words) != 4 or words[0] != "beat" or words[2] != "happenings":
        raise NoText("the first row of a net is: beat BEAT happenings MANY")
    return (read_whole(words[1]), read_whole(words[3]))


def read_span(row):
    """The tuple of five numbers that a span's row tells, or NoText."""
    words = row.split(" ")
    if len(words) != 5:
        raise NoText("the row of a span is: START GOAL LEAST MOST WEIGHT")
    return tuple([read_whole(word) for word in words])


def read_net(text):
    """The net that is written as this text, or NoText, of anything."""
    if not isinstance(text, str):
        raise NoText("a net is read from a text alone")
    rows = text.split("\n")
    head = read_head(rows[0])
    net = (head[0], head[1], tuple([read_span(row) for row in rows[1:]]))
    if not is_net(net):
        raise NoText("the numbers of these rows tell no net")
    return net
