"""Tables changed for another net: points 2, 3, 18, 19, 20 and 21."""

import itertools
import random
import unittest

from hourtable.changes import fewest_moved, pinned, staying
from hourtable.errors import HourError, TooGreat
from hourtable.finding import table_for
from hourtable.forests import cases_of
from hourtable.leasts import best_for
from hourtable.nets import is_net
from hourtable.tables import fits, is_table, moved_by
from hourtable.trees import shown_by
from tests.samples import (GREATEST, GREAT_BEAT, SMALL_NETS, gapped_net, great_net, is_plain, is_told_tree,
                           small_nets_by_chance, tables_of)

# Going round, one of them must be 2 or 3 behind the one ahead.
RING = (10, 4, ((0, 1, 2, 3, 1), (1, 2, 2, 3, 1), (2, 3, 2, 3, 1), (3, 0, 2, 3, 1)))
DEAD = (10, 3, ((0, 1, 2, 3, 1), (1, 0, 2, 3, 1)))
# Two parts, (0, 2, 4) and (1, 3), and a happening alone.
PARTS = (10, 6, ((0, 2, 2, 4, 1), (2, 4, 2, 4, 1), (3, 1, 5, 6, 1)))


def some_of(many):
    """All tuples of some of so many happenings, rising."""
    return [some for size in range(many + 1) for some in itertools.combinations(range(many), size)]


def have_like_times(table, other, some):
    return all(table[happening] == other[happening] for happening in some)


def unlike_times(table, other):
    return tuple(happening for happening in range(len(table)) if table[happening] != other[happening])


def fitting_of(net):
    return [table for table in tables_of(net) if fits(net, table)]


def tables_to_change(chance, net, many):
    """At most so many tables of a small net, fitting and others."""
    tables = tables_of(net)
    return tables if len(tables) <= many else chance.sample(tables, many)


def disturbed(chance, net, table, many):
    """The table with other times, by chance, for so many of its happenings."""
    times = list(table)
    for happening in chance.sample(range(net[1]), many):
        times[happening] = chance.randrange(net[0])
    return tuple(times)


class PinnedTest(unittest.TestCase):
    net = (60, 4, ((0, 1, 5, 9, 3), (2, 1, 0, 59, 0)))
    table = (50, 59, 0, 7)

    def told(self, some, spans):
        told = pinned(self.net, self.table, some)
        self.assertEqual(told, (60, 4, self.net[2] + spans))
        self.assertTrue(is_plain(told))
        self.assertIs(is_net(told), True)

    def test_none_and_one(self):
        self.told((), ())
        for happening in range(4):
            self.told((happening,), ())

    def test_two(self):
        self.told((0, 1), ((0, 1, 9, 9, 0),))
        self.told((2, 3), ((2, 3, 7, 7, 0),))

    def test_the_second_one_s_time_is_below_the_first_one_s(self):
        self.told((0, 2), ((0, 2, 10, 10, 0),))
        self.told((0, 3), ((0, 3, 17, 17, 0),))
        self.told((1, 2), ((1, 2, 1, 1, 0),))

    def test_several_and_all(self):
        self.told((0, 1, 3), ((0, 1, 9, 9, 0), (1, 3, 8, 8, 0)))
        self.told((0, 1, 2, 3), ((0, 1, 9, 9, 0), (1, 2, 1, 1, 0), (2, 3, 7, 7, 0)))

    def test_times_at_the_edges(self):
        self.assertEqual(pinned((10, 2, ()), (0, 9), (0, 1)), (10, 2, ((0, 1, 9, 9, 0),)))
        self.assertEqual(pinned((10, 2, ()), (9, 0), (0, 1)), (10, 2, ((0, 1, 1, 1, 0),)))
        self.assertEqual(pinned((10, 2, ()), (9, 9), (0, 1)), (10, 2, ((0, 1, 0, 0, 0),)))
        self.assertEqual(pinned((1, 2, ()), (0, 0), (0, 1)), (1, 2, ((0, 1, 0, 0, 0),)))
        self.assertEqual(pinned((GREATEST, 2, ()), (0, GREATEST - 1), (0, 1)),
                         (GREATEST, 2, ((0, 1, GREATEST - 1, GREATEST - 1, 0),)))

    def test_forty_spans_and_more(self):
        spans = tuple((k % 16, (k + 1) % 16, k, k + 5, k) for k in range(40))
        table = tuple(range(16))
        for many in (25, 26, 38, 39, 40):
            net = (60, 16, spans[:many])
            for size in range(17):
                there = many + max(size - 1, 0)
                some = tuple(range(16 - size, 16))
                if there <= 40:
                    told = pinned(net, table, some)
                    self.assertEqual((told[2][:many], len(told[2])), (spans[:many], there))
                else:
                    with self.assertRaises(TooGreat) as refusal:
                        pinned(net, table, some)
                    self.assertIs(type(refusal.exception), TooGreat)
                    self.assertIsInstance(refusal.exception, HourError)
                    self.assertEqual((refusal.exception.many, refusal.exception.most), (there, 40))

    def test_cases_are_not_asked_for(self):
        net = (GREATEST, 3, ((0, 1, 0, GREATEST - 1, 1), (1, 2, 0, GREATEST - 1, 1)))
        self.assertGreater(cases_of(net), 4096)
        self.assertEqual(pinned(net, (5, 3, 7), (1, 2)), (GREATEST, 3, net[2] + ((1, 2, 4, 4, 0),)))

    def test_just_the_tables_that_have_the_times_when_moved_fit(self):
        chance = random.Random(19)
        for net in [net for net in SMALL_NETS if net[0] ** net[1] <= 350]:
            for table in tables_to_change(chance, net, 5):
                for some in some_of(net[1]):
                    there = pinned(net, table, some)
                    for other in tables_of(net):
                        like = any(have_like_times(table, moved_by(net, other, number), some)
                                   for number in range(net[0]))
                        self.assertIs(fits(there, other), fits(net, other) and like)


class ChangeCase(unittest.TestCase):
    def told_stay(self, net, table):
        """What staying tells of a net that some table fits, held against all of 20 that holds of any net."""
        told = staying(net, table)
        self.assertTrue(is_plain(told))
        self.assertEqual((told[0], len(told)), ("stay", 3))
        self.assertEqual(told[1], tuple(sorted(set(told[1]))))
        self.assertIs(is_table(net, told[2]), True)
        self.assertIs(fits(net, told[2]), True)
        self.assertTrue(have_like_times(table, told[2], told[1]))
        self.assertIn(0, told[1])
        return told

    def told_moved(self, net, table):
        """What fewest_moved tells of a net that some table fits, held against all of 21 that holds of any net."""
        told = fewest_moved(net, table)
        self.assertTrue(is_plain(told))
        self.assertEqual((told[0], len(told)), ("moved", 3))
        self.assertIs(is_table(net, told[2]), True)
        self.assertIs(fits(net, told[2]), True)
        self.assertEqual(told[1], unlike_times(table, told[2]))
        self.assertLess(len(told[1]), net[1])
        # What stays is one way of moving few.
        self.assertLessEqual(len(told[1]), net[1] - len(staying(net, table)[1]))
        return told

    def told_none(self, net, table):
        for change in (staying, fewest_moved):
            told = change(net, table)
            self.assertTrue(is_plain(told))
            self.assertEqual((told[0], len(told)), ("none", 2))
            self.assertTrue(is_told_tree(net, told[1]))
            self.assertEqual(shown_by(net, told[1]), ("none",))


class StayingTest(ChangeCase):
    def test_a_table_that_fits_stays(self):
        for net, table in ((RING, (3, 5, 8, 0)), (PARTS, (9, 0, 1, 5, 5, 7)), ((60, 3, ()), (59, 0, 30)),
                           ((1, 1, ()), (0,)), ((GREATEST, 2, ((0, 1, 5, 5, 1),)), (GREATEST - 2, 3))):
            self.assertIs(fits(net, table), True)
            self.assertEqual(staying(net, table), ("stay", tuple(range(net[1])), table))

    def test_one_after_the_other(self):
        self.assertEqual(self.told_stay(RING, (0, 2, 4, 6))[1], (0, 1, 2))
        self.assertEqual(self.told_stay(RING, (0, 2, 4, 7))[1], (0, 1, 2, 3))
        self.assertEqual(self.told_stay(RING, (5, 7, 2, 2)), ("stay", (0, 1, 3), (5, 7, 9, 2)))
        self.assertEqual(self.told_stay(RING, (5, 2, 4, 2))[1], (0, 3))
        # The first happening stays, though the three others could stay without it.
        self.assertEqual(self.told_stay(RING, (5, 2, 4, 7))[1], (0,))

    def test_a_table_that_fits_nowhere_near(self):
        self.assertEqual(self.told_stay(RING, (4, 4, 4, 4))[1], (0,))
        net = (60, 16, tuple((k, k + 1, 1, 1, 1) for k in range(15)))
        self.assertEqual(self.told_stay(net, (7,) * 16), ("stay", (0,), tuple(range(7, 23))))
        self.assertEqual(self.told_stay(net, tuple(range(40, 24, -1)))[1], (0,))

    def test_parts_move_each_by_itself(self):
        # In each part the first happening stays, whatever becomes of the others.
        told = self.told_stay(PARTS, (0, 0, 9, 0, 9, 3))
        self.assertEqual(told[1], (0, 1, 5))
        told = self.told_stay(PARTS, (0, 0, 3, 5, 8, 3))
        self.assertEqual(told[1], (0, 1, 2, 3, 5))
        told = self.told_stay(PARTS, (7, 0, 3, 4, 1, 3))
        self.assertEqual(told, ("stay", (0, 1, 3, 4, 5), (7, 0) + told[2][2:3] + (4, 1, 3)))

    def test_no_spans(self):
        chance = random.Random(20)
        table = tuple(chance.randrange(60) for _ in range(16))
        self.assertEqual(self.told_stay((60, 16, ()), table), ("stay", tuple(range(16)), table))

    def test_none_fits(self):
        self.told_none(DEAD, (0, 2, 5))
        self.told_none(SMALL_NETS[8], (0, 0))
        self.told_none((10, 6, PARTS[2] + ((5, 3, 1, 1, 1), (5, 3, 3, 3, 1))), (9, 0, 1, 5, 5, 7))

    def test_all_tables_of_small_nets(self):
        chance = random.Random(201)
        stayed = set()
        for net in SMALL_NETS + tuple(small_nets_by_chance(202, 30)):
            fitting = fitting_of(net)
            for table in tables_to_change(chance, net, 30):
                if not fitting:
                    self.told_none(net, table)
                    continue
                some = ()
                for happening in range(net[1]):
                    if any(have_like_times(table, other, some + (happening,)) for other in fitting):
                        some += (happening,)
                self.assertEqual(self.told_stay(net, table)[1], some)
                stayed.add((net[1], some))
        self.assertGreater(len(stayed), 12)


class FewestMovedTest(ChangeCase):
    def test_none_moved_where_the_table_fits(self):
        for net, table in ((RING, (3, 5, 8, 0)), (PARTS, (9, 0, 1, 5, 5, 7)), ((60, 3, ()), (59, 0, 30)),
                           ((1, 1, ()), (0,)), ((GREATEST, 2, ((0, 1, 5, 5, 1),)), (GREATEST - 2, 3))):
            self.assertEqual(fewest_moved(net, table), ("moved", (), table))

    def test_fewer_than_by_staying(self):
        told = self.told_moved(RING, (5, 2, 4, 7))
        self.assertEqual((told[1], told[2][1:]), ((0,), (2, 4, 7)))
        self.assertEqual(self.told_stay(RING, (5, 2, 4, 7))[1], (0,))
        net = (60, 16, tuple((k, k + 1, 1, 1, 1) for k in range(15)))
        self.assertEqual(self.told_moved(net, (30,) + tuple(range(1, 16))), ("moved", (0,), tuple(range(16))))

    def test_all_but_one_moved(self):
        net = (60, 16, tuple((k, k + 1, 1, 1, 1) for k in range(15)))
        self.assertEqual(len(self.told_moved(net, (7,) * 16)[1]), 15)
        self.assertEqual(len(self.told_moved((60, 2, ((0, 1, 5, 5, 1),)), (0, 6))[1]), 1)

    def test_parts_that_no_spans_join(self):
        self.assertEqual(len(self.told_moved(PARTS, (0, 0, 9, 0, 9, 3))[1]), 3)
        self.assertEqual(len(self.told_moved(PARTS, (0, 0, 9, 4, 2, 3))[1]), 1)
        net = (60, 16, tuple((k, k + 4, 1, 1, 1) for k in range(12)))
        table = (30, 8, 30, 30) + (8, 30, 7, 7) + (9, 9, 8, 8) + (10, 10, 20, 9)
        other = (7, 7, 6, 6) + (8, 8, 7, 7) + (9, 9, 8, 8) + (10, 10, 9, 9)
        self.assertEqual(self.told_moved(net, table), ("moved", (0, 1, 2, 3, 5, 14), other))

    def test_no_spans(self):
        self.assertEqual(fewest_moved((60, 3, ()), (5, 5, 59)), ("moved", (), (5, 5, 59)))

    def test_all_tables_of_small_nets(self):
        chance = random.Random(211)
        moved = set()
        for net in SMALL_NETS + tuple(small_nets_by_chance(212, 30)):
            fitting = fitting_of(net)
            for table in tables_to_change(chance, net, 30):
                if not fitting:
                    self.told_none(net, table)
                    continue
                fewest = min(len(unlike_times(table, other)) for other in fitting)
                told = self.told_moved(net, table)
                self.assertEqual(len(told[1]), fewest)
                moved.add((net[1], fewest))
        self.assertGreater(len(moved), 8)


class TooGreatTest(unittest.TestCase):
    def refused(self, net, table, many):
        self.assertIs(is_table(net, table), True)
        for ask in (lambda: staying(net, table), lambda: fewest_moved(net, table),
                    lambda: table_for(net), lambda: best_for(net)):
            with self.assertRaises(TooGreat) as refusal:
                ask()
            self.assertIs(type(refusal.exception), TooGreat)
            self.assertIsInstance(refusal.exception, HourError)
            self.assertEqual((refusal.exception.many, refusal.exception.most), (many, 4096))

    def test_cases_at_the_edge(self):
        for width in (4094, 4095):
            net = (10000, 2, ((0, 1, 3, 3 + width, 1),))
            self.assertEqual(staying(net, (0, 3 + width)), ("stay", (0, 1), (0, 3 + width)))
            self.assertEqual(staying(net, (0, 4 + width))[:2], ("stay", (0,)))
            self.assertEqual(fewest_moved(net, (1, 4)), ("moved", (), (1, 4)))
            self.assertEqual(len(fewest_moved(net, (1, 3))[1]), 1)
        self.refused((10000, 2, ((0, 1, 3, 3 + 4096, 1),)), (0, 3), 4097)
        self.refused((300, 3, ((0, 1, 0, 16, 1), (2, 1, 0, 240, 1))), (0, 0, 0), 4097)

    def test_very_many(self):
        net = (GREATEST, 16, tuple((k, k + 1, 0, GREATEST - 1, 1) for k in range(15)))
        self.refused(net, tuple(range(16)), GREATEST ** 15)

    def test_ahead_of_all_else(self):
        # A table that fits; a net that none fits; one where a net pinned for all would have too many spans.
        self.refused((10000, 3, ((0, 1, 3, 3 + 4096, 1),)), (0, 3, 5), 4097)
        self.refused((10000, 4, ((0, 1, 0, 4096, 0), (2, 3, 1, 1, 1), (2, 3, 2, 2, 1))), (0, 0, 0, 0), 4097)
        self.refused((10000, 16, ((0, 1, 0, 4096, 0),) * 40), (0,) * 16, 4097)

    def test_wide_spans_that_aren_t_taken_make_nothing_too_great(self):
        net = (10000, 2, ((0, 1, 0, 4095, 1), (0, 1, 4000, 9000, 1)))
        self.assertEqual(staying(net, (0, 4095)), ("stay", (0, 1), (0, 4095)))
        self.assertEqual(fewest_moved(net, (0, 3999))[0], "moved")
        self.refused((10000, 2, ((0, 1, 0, 4096, 1), (0, 1, 4000, 9000, 1))), (0, 4000), 4097)


class GreatTest(ChangeCase):
    def test_what_stays_as_pinned_nets_tell_it(self):
        chance = random.Random(221)
        for turn in range(16):
            parts = chance.choice((1, 1, 2, 3))
            net, table = great_net(chance, chance.choice((60, 5000, GREAT_BEAT)), 16, 16 + turn % 10, parts)
            table = disturbed(chance, net, table, chance.randrange(12))
            some = ()
            for happening in range(16):
                if table_for(pinned(net, table, some + (happening,)))[0] == "table":
                    some += (happening,)
            self.assertEqual(self.told_stay(net, table)[1], some)

    def test_as_few_moved_as_pinned_nets_tell_it(self):
        chance = random.Random(222)
        for turn in range(12):
            net, table = great_net(chance, chance.choice((60, 5000, GREAT_BEAT)), 6, 6 + turn, chance.choice((1, 2)))
            table = disturbed(chance, net, table, chance.randrange(6))
            stay = max([some for some in some_of(6) if table_for(pinned(net, table, some))[0] == "table"], key=len)
            self.assertEqual(len(self.told_moved(net, table)[1]), 6 - len(stay))

    def test_forty_spans_are_not_refused(self):
        chance = random.Random(223)
        for beat in (60, 5000, GREAT_BEAT):
            for parts in (1, 2):
                net, table = great_net(chance, beat, 16, 40, parts)
                self.assertEqual(staying(net, table), ("stay", tuple(range(16)), table))
                self.assertEqual(fewest_moved(net, table), ("moved", (), table))
                for many in (1, 3, 16):
                    other = disturbed(chance, net, table, many)
                    self.assertGreaterEqual(len(self.told_stay(net, other)[1]), parts)
                    self.assertLessEqual(len(self.told_moved(net, other)[1]), min(many, 16 - parts))

    def test_forty_spans_that_leave_one_length(self):
        net = gapped_net(40 * 102 + 1, 102, 40)
        self.assertEqual(self.told_stay(net, (5, 4)), ("stay", (0, 1), (5, 4)))
        self.assertEqual(self.told_stay(net, (5, 5)), ("stay", (0,), (5, 4)))
        self.assertIn(self.told_moved(net, (5, 5)), (("moved", (0,), (6, 5)), ("moved", (1,), (5, 4))))
        self.told_none(gapped_net(40 * 102, 102, 40), (5, 5))


if __name__ == "__main__":
    unittest.main()
