"""Nets and other things that several tests ask about."""

GREATEST = 10 ** 60 - 1

PLAIN_NETS = (
    (1, 1, ()),
    (60, 16, ()),
    (60, 2, ((0, 1, 5, 9, 3),)),
    (60, 3, ((0, 1, 5, 9, 3), (1, 2, 0, 59, 0), (2, 0, 70, 70, 10 ** 12))),
    (60, 2, ((0, 1, 5, 9, 3), (0, 1, 5, 9, 3))),
    (60, 2, ((0, 1, 5, 9, 3), (0, 1, 6, 20, 1))),
    (60, 2, ((0, 1, 5, 9, 3), (1, 0, 5, 9, 3))),
    (60, 16, tuple((k % 16, (k + 1) % 16, k, k + 59, k) for k in range(40))),
    (GREATEST, 2, ((0, 1, 0, GREATEST - 1, 7), (1, 0, GREATEST, GREATEST, 0))),
)


class Odd:
    """Something that can't be compared, measured, walked or written."""

    def refuse(self, *given):
        raise RuntimeError("not to be asked")

    __eq__ = __lt__ = __gt__ = __le__ = __ge__ = refuse
    __len__ = __iter__ = __getitem__ = __bool__ = __hash__ = __repr__ = __str__ = __int__ = refuse


def knotted_list():
    """A list that holds itself."""
    knot = []
    knot.append(knot)
    return knot


def deep_tuple():
    """A tuple within a tuple, far deeper than calls may go."""
    deep = ()
    for _ in range(100000):
        deep = (deep,)
    return deep


# No number is among these but such as are no whole numbers, so none can stand in a number's place.
NO_NUMBERS = (True, False, None, "", "1", (), (1,), [], [1], {}, {1: 1}, 1.0, 1j, float("nan"), b"1", {1}, int, Odd())

NO_TEXTS = (None, 0, 1, -1, GREATEST, True, False, (), ("beat 1 happenings 1",), [], ["beat 1 happenings 1"], {}, 1.5,
            b"beat 1 happenings 1", set(), str, Odd())
