"""Nets and other things that several tests ask about."""

import itertools
import math
import random

from hourtable.errors import HourError, TooGreat
from hourtable.trees import is_tree, leaves_of

GREATEST = 10 ** 60 - 1
# Also a most that is two beats, less 2, has but sixty figures.
GREAT_BEAT = 5 * 10 ** 59

PLAIN_NETS = (
    (1, 1, ()),
    (60, 16, ()),
    (60, 2, ((0, 1, 5, 9, 3),)),
    (60, 3, ((0, 1, 5, 9, 3), (1, 2, 0, 59, 0), (2, 0, 70, 70, 10 ** 12))),
    (60, 2, ((0, 1, 5, 9, 3), (0, 1, 5, 9, 3))),
    (60, 2, ((0, 1, 5, 9, 3), (0, 1, 6, 20, 1))),
    (60, 2, ((0, 1, 5, 9, 3), (1, 0, 5, 9, 3))),
    (60, 16, tuple((k % 16, (k + 1) % 16, k, k + 59, k) for k in range(40))),
    (GREATEST, 2, ((0, 1, 0, GREATEST - 1, 7), (1, 0, GREATEST, GREATEST, 0))),
)


class Odd:
    """Something that can't be compared, measured, walked or written."""

    def refuse(self, *given):
        raise RuntimeError("not to be asked")

    __eq__ = __lt__ = __gt__ = __le__ = __ge__ = refuse
    __len__ = __iter__ = __getitem__ = __bool__ = __hash__ = __repr__ = __str__ = __int__ = refuse


def knotted_list():
    """A list that holds itself."""
    knot = []
    knot.append(knot)
    return knot


def deep_tuple():
    """A tuple within a tuple, far deeper than calls may go."""
    deep = ()
    for _ in range(100000):
        deep = (deep,)
    return deep


# No number is among these but such as are no whole numbers, so none can stand in a number's place.
NO_NUMBERS = (True, False, None, "", "1", (), (1,), [], [1], {}, {1: 1}, 1.0, 1j, float("nan"), b"1", {1}, int, Odd())

NO_TEXTS = (None, 0, 1, -1, GREATEST, True, False, (), ("beat 1 happenings 1",), [], ["beat 1 happenings 1"], {}, 1.5,
            b"beat 1 happenings 1", set(), str, Odd())


# Small enough that all tables of each can be gone through.
SMALL_NETS = (
    (1, 1, ()),
    (4, 3, ()),
    (5, 2, ((0, 1, 3, 5, 2),)),
    (1, 2, ((0, 1, 2, 2, 3), (1, 0, 0, 0, 1))),
    (6, 2, ((0, 1, 1, 3, 2), (0, 1, 2, 5, 1))),
    (6, 2, ((0, 1, 1, 2, 2), (0, 1, 4, 5, 1))),
    (6, 2, ((0, 1, 1, 3, 2), (1, 0, 4, 6, 5))),
    (6, 2, ((0, 1, 1, 1, 2), (1, 0, 4, 4, 5))),
    # Any two of these spans can be kept together, but not all three.
    (6, 2, ((0, 1, 0, 3, 1), (0, 1, 2, 5, 1), (0, 1, 4, 7, 1))),
    (5, 3, ((0, 1, 2, 3, 4), (1, 2, 1, 3, 0), (2, 0, 6, 8, 10 ** 12))),
    (5, 3, ((0, 1, 1, 1, 4), (1, 2, 1, 2, 1), (2, 0, 1, 1, 7))),
    (7, 3, ((0, 1, 1, 3, 4), (2, 1, 2, 4, 3), (0, 2, 0, 6, 5), (2, 0, 3, 4, 0))),
    (5, 4, ((0, 1, 2, 3, 4), (1, 0, 2, 4, 3), (2, 3, 9, 10, 2), (3, 2, 1, 3, 1))),
    (4, 4, ((0, 1, 1, 2, 3), (1, 2, 0, 1, 1), (2, 3, 3, 4, 2), (3, 0, 1, 2, 5), (0, 2, 2, 4, 6))),
)


def tables_of(net):
    """All tables of a small net."""
    return list(itertools.product(range(net[0]), repeat=net[1]))


def is_plain(thing):
    """Whether this is a text, a whole number, a truth, None, or a tuple of such, however deep, and nothing else."""
    if type(thing) is tuple:
        return all(is_plain(part) for part in thing)
    return type(thing) in (str, int, bool, type(None))


WEIGHTS = (0, 1, 1, 7, 1000, 10 ** 12)


def net_by_chance(chance, beat, many, spans):
    """A small net by chance; its leasts may be above the beat."""
    rows = []
    for _ in range(spans):
        start, goal = chance.sample(range(many), 2)
        least = chance.randrange(2 * beat)
        width = chance.choice((0, beat // 2, beat - 1, chance.randrange(beat)))
        rows.append((start, goal, least, least + width, chance.choice(WEIGHTS)))
    return (beat, many, tuple(rows))


def small_nets_by_chance(seed, turns):
    """Small nets by chance, with spans so many that a table fits some of them and none fits others."""
    chance = random.Random(seed)
    return [net_by_chance(chance, chance.choice((1, 2, 3, 5, 6)), many, chance.randint(0, 2 * many))
            for many in (2, 3, 4) for _ in range(turns)]


def widths_by_chance(chance, beat, many, cases):
    """So many widths by chance, whose cases are at most these."""
    widths = [0] * many
    tries = 0
    while tries < 20:
        place = chance.randrange(many)
        more = widths[:place] + [widths[place] + 1] + widths[place + 1:]
        if widths[place] + 1 < beat and math.prod(width + 1 for width in more) <= cases:
            widths = more
        else:
            tries += 1
    return widths


def table_within(chance, beat, many, rows):
    """A table by chance that keeps these spans, each of which leads to or from a happening that none ahead has."""
    times = [chance.randrange(beat) for _ in range(many)]
    for start, goal, least, most, _ in rows:
        length = chance.choice((least, most, chance.randint(least, most)))
        if start < goal:
            times[goal] = (times[start] + length) % beat
        else:
            times[start] = (times[goal] - length) % beat
    return tuple(times)


def great_net(chance, beat, many, spans, parts=1, pulled=False, cases=4096):
    """A net of at most so many cases, mostly near that, and a table that fits.

    Pulled, each span alone is kept by a table of its own beside those of the forest, but perhaps not all of them.
    """
    rows = []
    for goal, width in zip(range(parts, many), widths_by_chance(chance, beat, many - parts, cases)):
        ends = [chance.randrange(goal % parts, goal, parts), goal]
        chance.shuffle(ends)
        least = chance.randrange(beat)
        rows.append((*ends, least, least + width, chance.choice(WEIGHTS)))
    table = table_within(chance, beat, many, rows)
    widest = max(most - least for _, _, least, most, _ in rows)
    pairs = [(one, other) for one in range(many) for other in range(one % parts, many, parts) if one != other]
    more = []
    for _ in range(spans - len(rows)):
        start, goal = chance.choice(pairs)
        width = min(beat - 1, widest + chance.randrange(3)) if pulled else chance.randint(widest, beat - 1)
        own = table_within(chance, beat, many, rows) if pulled else table
        least = (own[goal] - own[start] - chance.choice((0, width, chance.randint(0, width)))) % beat
        more.append((start, goal, least, least + width, chance.choice(WEIGHTS)))
    rows = rows + more
    chance.shuffle(rows)
    return ((beat, many, tuple(rows)), table)


def gapped_net(beat, gap, many):
    """A net of two happenings whose spans, so many, each leave out one gap of lengths, one gap behind the other."""
    return (beat, 2, tuple((0, 1, (k + 1) * gap, (k + 1) * gap + beat - gap - 1, k) for k in range(many)))


def unlike_net(beat, many, pairs):
    """A net whose spans ask of each of these pairs of happenings that their times are unlike."""
    return (beat, many, tuple((one, other, 1, beat - 1, 1) for one, other in pairs))


def groetzsch_pairs():
    """Twenty pairs of eleven happenings that can't all be unlike by three times, but can without any one pair."""
    rim = [(k, (k + 1) % 5) for k in range(5)]
    middle = [(5 + k, (k + turn) % 5) for k in range(5) for turn in (1, 4)]
    return rim + middle + [(10, 5 + k) for k in range(5)]


def cuts_within(tree):
    """How many cuts of a tree lie within one another."""
    return 1 + max(cuts_within(tree[3]), cuts_within(tree[4])) if tree[0] == "cut" else 0


def is_told_tree(net, tree):
    """Whether this is a tree of a net, within all that binds a tree that is told."""
    if not is_plain(tree) or not is_tree(net, tree) or cuts_within(tree) > 100:
        return False
    leaves = leaves_of(net, tree)
    return len(leaves) <= 10000 and all(len(leaf[1]) <= 40 for _, leaf in leaves if leaf[0] == "price")


def refused(case, kind, ask, *given):
    """The refusal, of just this class, that is told when this is asked, held in a test case."""
    with case.assertRaises(HourError, msg=kind.__name__) as told:
        ask(*given)
    case.assertIs(type(told.exception), kind)
    return told.exception


def too_great(case, many, most, ask, *given):
    """Hold in a test case that this is refused as too great, with these two fields."""
    refusal = refused(case, TooGreat, ask, *given)
    case.assertEqual((refusal.many, refusal.most), (many, most))
    case.assertTrue(is_plain((refusal.many, refusal.most)))
