"""Nets and other things that several tests ask about."""

import itertools

GREATEST = 10 ** 60 - 1

PLAIN_NETS = (
    (1, 1, ()),
    (60, 16, ()),
    (60, 2, ((0, 1, 5, 9, 3),)),
    (60, 3, ((0, 1, 5, 9, 3), (1, 2, 0, 59, 0), (2, 0, 70, 70, 10 ** 12))),
    (60, 2, ((0, 1, 5, 9, 3), (0, 1, 5, 9, 3))),
    (60, 2, ((0, 1, 5, 9, 3), (0, 1, 6, 20, 1))),
    (60, 2, ((0, 1, 5, 9, 3), (1, 0, 5, 9, 3))),
    (60, 16, tuple((k % 16, (k + 1) % 16, k, k + 59, k) for k in range(40))),
    (GREATEST, 2, ((0, 1, 0, GREATEST - 1, 7), (1, 0, GREATEST, GREATEST, 0))),
)


class Odd:
    """Something that can't be compared, measured, walked or written."""

    def refuse(self, *given):
        raise RuntimeError("not to be asked")

    __eq__ = __lt__ = __gt__ = __le__ = __ge__ = refuse
    __len__ = __iter__ = __getitem__ = __bool__ = __hash__ = __repr__ = __str__ = __int__ = refuse


def knotted_list():
    """A list that holds itself."""
    knot = []
    knot.append(knot)
    return knot


def deep_tuple():
    """A tuple within a tuple, far deeper than calls may go."""
    deep = ()
    for _ in range(100000):
        deep = (deep,)
    return deep


# No number is among these but such as are no whole numbers, so none can stand in a number's place.
NO_NUMBERS = (True, False, None, "", "1", (), (1,), [], [1], {}, {1: 1}, 1.0, 1j, float("nan"), b"1", {1}, int, Odd())

NO_TEXTS = (None, 0, 1, -1, GREATEST, True, False, (), ("beat 1 happenings 1",), [], ["beat 1 happenings 1"], {}, 1.5,
            b"beat 1 happenings 1", set(), str, Odd())


# Small enough that all tables of each can be gone through.
SMALL_NETS = (
    (1, 1, ()),
    (4, 3, ()),
    (5, 2, ((0, 1, 3, 5, 2),)),
    (1, 2, ((0, 1, 2, 2, 3), (1, 0, 0, 0, 1))),
    (6, 2, ((0, 1, 1, 3, 2), (0, 1, 2, 5, 1))),
    (6, 2, ((0, 1, 1, 2, 2), (0, 1, 4, 5, 1))),
    (6, 2, ((0, 1, 1, 3, 2), (1, 0, 4, 6, 5))),
    (6, 2, ((0, 1, 1, 1, 2), (1, 0, 4, 4, 5))),
    # Any two of these spans can be kept together, but not all three.
    (6, 2, ((0, 1, 0, 3, 1), (0, 1, 2, 5, 1), (0, 1, 4, 7, 1))),
    (5, 3, ((0, 1, 2, 3, 4), (1, 2, 1, 3, 0), (2, 0, 6, 8, 10 ** 12))),
    (5, 3, ((0, 1, 1, 1, 4), (1, 2, 1, 2, 1), (2, 0, 1, 1, 7))),
    (7, 3, ((0, 1, 1, 3, 4), (2, 1, 2, 4, 3), (0, 2, 0, 6, 5), (2, 0, 3, 4, 0))),
    (5, 4, ((0, 1, 2, 3, 4), (1, 0, 2, 4, 3), (2, 3, 9, 10, 2), (3, 2, 1, 3, 1))),
    (4, 4, ((0, 1, 1, 2, 3), (1, 2, 0, 1, 1), (2, 3, 3, 4, 2), (3, 0, 1, 2, 5), (0, 2, 2, 4, 6))),
)


def tables_of(net):
    """All tables of a small net."""
    return list(itertools.product(range(net[0]), repeat=net[1]))


def is_plain(thing):
    """Whether this is a text, a whole number, a truth, None, or a tuple of such, however deep, and nothing else."""
    if type(thing) is tuple:
        return all(is_plain(part) for part in thing)
    return type(thing) in (str, int, bool, type(None))
