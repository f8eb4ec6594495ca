"""Ways and rings of a net's spans, and what they come to by bounds."""

from hourtable.wholes import is_within


def is_step(net, thing):
    """Tell of anything whether it is a step of a net."""
    if not isinstance(thing, tuple) or len(thing) != 2:
        return False
    if not is_within(thing[0], 0, len(net[2]) - 1):
        return False
    return is_within(thing[1], -1, 1) and thing[1] != 0


def leads_from(net, step):
    """The happening that a step leads from."""
    span = net[2][step[0]]
    return span[0] if step[1] == 1 else span[1]


def leads_to(net, step):
    """The happening that a step leads to."""
    span = net[2][step[0]]
    return span[1] if step[1] == 1 else span[0]


def is_way(net, thing):
    """Tell of anything whether it is a way of a net."""
    if not isinstance(thing, tuple) or len(thing) == 0:
        return False
    if not all([is_step(net, step) for step in thing]):
        return False
    return all([leads_to(net, one) == leads_from(net, other) for one, other in zip(thing, thing[1:])])


def ends_of(net, way):
    """The tuple (begin, end) of the happenings where a way begins and ends."""
    return (leads_from(net, way[0]), leads_to(net, way[-1]))


def is_ring(net, thing):
    """Tell of anything whether it is a ring of a net."""
    if not is_way(net, thing) or len(thing) < 2:
        return False
    if len(set([step[0] for step in thing])) != len(thing):
        return False
    return leads_from(net, thing[0]) == leads_to(net, thing[-1])


def first_bounds(net):
    """The bounds that have each span's least and most."""
    return tuple([(span[2], span[3]) for span in net[2]])


def sum_of(bounds, way):
    """The tuple (low, high) between which a way's lengths come to by bounds."""
    low = 0
    high = 0
    for step in way:
        bound = bounds[step[0]]
        if step[1] == 1:
            low += bound[0]
            high += bound[1]
        else:
            low -= bound[1]
            high -= bound[0]
    return (low, high)


def beats_of(net, bounds, ring):
    """The tuple (first, last) of the numbers of beats that a ring can come to by bounds."""
    beat = net[0]
    ends = sum_of(bounds, ring)
    # Python's own // goes down, so the first number, which must go up, is asked from the other side.
    return (-(-ends[0] // beat), ends[1] // beat)


def is_dead(net, bounds, ring):
    """Tell whether a ring can come to no number of beats by bounds."""
    beats = beats_of(net, bounds, ring)
    return beats[0] > beats[1]


def is_sure(net, bounds, ring):
    """Tell whether a ring can come to just one number of beats by bounds."""
    beats = beats_of(net, bounds, ring)
    return beats[0] == beats[1]
