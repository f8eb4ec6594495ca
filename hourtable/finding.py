"""Finding: some table that fits a net, or a tree of cases by which there is none."""

from hourtable.errors import TooGreat
from hourtable.forests import cases_of, forest_of, rings_of, spread_of
from hourtable.rings import first_bounds, is_dead, leads_from, leads_to
from hourtable.tables import rest_by
from hourtable.trees import with_bound

MOST_CASES = 4096


def rings_over(rings, span):
    """Those of these rings that have a span."""
    return [ring for ring in rings if span in [step[0] for step in ring]]


class Cuts:
    """How the cases of a net are cut: each is a tuple of its bounds and of the rings that may have died with it."""

    def __init__(self, net):
        rings = rings_of(net)
        touched = [rings_over(rings, span) for span in range(len(net[2]))]
        self.first_case = (first_bounds(net), rings)
        self.touched = touched
        # The forest's lengths alone settle all the others. Those that most rings have go first: so rings die early.
        self.order = sorted(forest_of(net), key=lambda span: (-len(touched[span]), span))

    def span_to_cut(self, case):
        """The span to be cut next, or None where the forest's lengths are all settled."""
        for span in self.order:
            bound = case[0][span]
            if bound[0] < bound[1]:
                return span
        return None

    def sides(self, case, span, at):
        """The two cases of a cut: the other's, then the one's."""
        bounds = case[0]
        one = with_bound(bounds, span, bounds[span][0], at)
        other = with_bound(bounds, span, at + 1, bounds[span][1])
        # A walk takes its cases from a list's end, and the one's side of a tree comes first.
        return [(other, self.touched[span]), (one, self.touched[span])]


def middle_of(case, span):
    """The number at which a span's bounds are cut in two halves."""
    bound = case[0][span]
    return (bound[0] + bound[1]) // 2


def dead_leaf(net, case):
    """The leaf of some ring that is dead in a case, or None."""
    for ring in case[1]:
        if is_dead(net, case[0], ring):
            return ("ring", ring)
    return None


def table_by(net, steps, bounds):
    """The table that has the lows of the steps' spans as their lengths, and each part's least happening at 0."""
    times = [0] * net[1]
    for step in steps:
        times[leads_to(net, step)] = times[leads_from(net, step)] + step[1] * bounds[step[0]][0]
    return tuple([rest_by(net[0], time) for time in times])


def tables_that_fit(net, most):
    """The list of the tables that fit, at most so many, each part's least happening at 0."""
    cuts = Cuts(net)
    steps = spread_of(net)
    tables = []
    ahead = [cuts.first_case]
    while len(ahead) > 0 and len(tables) < most:
        case = ahead.pop()
        if dead_leaf(net, case) is None:
            span = cuts.span_to_cut(case)
            if span is None:
                tables.append(table_by(net, steps, case[0]))
            else:
                ahead.extend(cuts.sides(case, span, middle_of(case, span)))
    return tables


def tree_from(marks):
    """The tree of its cuts, still without their sides, and its leaves, told from the top and the left."""
    trees = []
    for mark in reversed(marks):
        if mark[0] == "cut":
            one = trees.pop()
            other = trees.pop()
            trees.append(mark + (one, other))
        else:
            trees.append(mark)
    return trees[0]


def tree_by(net, leaf_in):
    """The tree that ends in each case for which leaf_in tells a leaf, and is cut where it tells None."""
    cuts = Cuts(net)
    marks = []
    ahead = [cuts.first_case]
    while len(ahead) > 0:
        case = ahead.pop()
        mark = leaf_in(case)
        if mark is None:
            span = cuts.span_to_cut(case)
            at = middle_of(case, span)
            mark = ("cut", span, at)
            ahead.extend(cuts.sides(case, span, at))
        marks.append(mark)
    return tree_from(marks)


def table_for(net):
    """("table", table) with some table that fits, or ("none", tree) with some tree that shows none, or TooGreat."""
    many = cases_of(net)
    if many > MOST_CASES:
        raise TooGreat(many, MOST_CASES)
    tables = tables_that_fit(net, 1)
    if len(tables) > 0:
        return ("table", tables[0])
    return ("none", tree_by(net, lambda case: dead_leaf(net, case)))
