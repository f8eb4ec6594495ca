"""The forest of a net: its narrowest spans that join all that can be joined, and the rings of the others."""

from hourtable.nets import width_of
from hourtable.rings import leads_from, leads_to


def spans_by_width(net):
    """The numbers of all spans, from the least width to the greatest, of several alike by their numbers."""
    return sorted(range(len(net[2])), key=lambda span: (width_of(net, span), span))


def forest_of(net):
    """The rising tuple of the numbers of the spans that the forest takes."""
    # Two happenings are in one group just where a way of taken spans leads from one to the other.
    groups = list(range(net[1]))
    taken = []
    for span in spans_by_width(net):
        one = groups[net[2][span][0]]
        other = groups[net[2][span][1]]
        if one != other:
            taken.append(span)
            groups = [one if group == other else group for group in groups]
    return tuple(sorted(taken))


def steps_from(net, spans, happening):
    """The steps over these spans that lead from a happening."""
    steps = [(span, 1) for span in spans] + [(span, -1) for span in spans]
    return [step for step in steps if leads_from(net, step) == happening]


def way_between(net, spans, begin, end):
    """The way over these spans of a forest, none twice, between two happenings that they join."""
    ways = {begin: ()}
    ahead = [begin]
    while end not in ways:
        here = ahead.pop()
        for step in steps_from(net, spans, here):
            there = leads_to(net, step)
            if there not in ways:
                ways[there] = ways[here] + (step,)
                ahead.append(there)
    return ways[end]


def ring_by(net, span):
    """The ring of the number of a span that the forest doesn't take."""
    start = net[2][span][0]
    goal = net[2][span][1]
    return ((span, 1),) + way_between(net, forest_of(net), goal, start)


def cases_of(net):
    """The product of the taken spans' widths, each and 1 together."""
    cases = 1
    for span in forest_of(net):
        cases *= width_of(net, span) + 1
    return cases


def rings_of(net):
    """The list of the rings of all spans that the forest doesn't take, in the order of those spans."""
    taken = forest_of(net)
    return [ring_by(net, span) for span in range(len(net[2])) if span not in taken]


def spread_of(net):
    """The list of steps over the forest that reach each part of a net from its least happening, in that order."""
    taken = forest_of(net)
    reached = {}
    steps = []
    for first in range(net[1]):
        ahead = [first] if first not in reached else []
        reached[first] = True
        while len(ahead) > 0:
            here = ahead.pop()
            for step in steps_from(net, taken, here):
                there = leads_to(net, step)
                if there not in reached:
                    reached[there] = True
                    ahead.append(there)
                    steps.append(step)
    return steps
