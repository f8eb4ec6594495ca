"""Nets and tables mirrored, stretched, named anew, side by side: points 2, 3, 23 and 24."""

import itertools
import random
import unittest

from hourtable.errors import NoOrder, OtherBeats
from hourtable.finding import table_for
from hourtable.leasts import best_for
from hourtable.moves import (mirrored, named_anew, side_by_side, stretched, table_mirrored, table_named_anew,
                             table_stretched)
from hourtable.nets import is_net
from hourtable.tables import broken_in, fits, is_table, moved_by, wait_of, waits_of
from tests.samples import (GREATEST, GREAT_BEAT, PLAIN_NETS, SMALL_NETS, Odd, great_net, is_plain, is_told_tree,
                           refused, small_nets_by_chance, tables_of, too_great)

NET = (20, 3, ((0, 1, 5, 9, 3), (2, 1, 30, 37, 10 ** 12), (0, 1, 5, 9, 3), (1, 0, 0, 19, 0)))
FACTORS = (1, 2, 7, 10 ** 6)


def outcome_of(net):
    """What can be promised of the table that waits least: its wait, or None where no table fits."""
    told = best_for(net)
    return told[2] if told[0] == "best" else None


def stretched_outcome(net, number):
    outcome = outcome_of(net)
    return None if outcome is None else outcome * number


class MoveCase(unittest.TestCase):
    def held_net(self, told, net):
        """Hold that what is told is this net, and one in all."""
        self.assertEqual(told, net)
        self.assertTrue(is_plain(told))
        self.assertIs(is_net(told), True)

    def held_table(self, net, told, table):
        """Hold that what is told is this table, and one of a net."""
        self.assertEqual(told, table)
        self.assertTrue(is_plain(told))
        self.assertIs(is_table(net, told), True)

    def waits_alike(self, net, table, other_net, other, times=1):
        """Hold that two tables of two nets keep the same spans and wait alike, or so many times as much."""
        self.assertIs(is_table(other_net, other), True)
        self.assertIs(fits(other_net, other), fits(net, table))
        self.assertEqual(broken_in(other_net, other), broken_in(net, table))
        self.assertEqual(waits_of(other_net, other), tuple(wait * times for wait in waits_of(net, table)))
        self.assertEqual(wait_of(other_net, other), wait_of(net, table) * times)


class MirroredTest(MoveCase):
    def test_no_span(self):
        self.held_net(mirrored((60, 16, ())), (60, 16, ()))
        self.held_net(mirrored((1, 1, ())), (1, 1, ()))

    def test_spans_in_their_order(self):
        spans = ((1, 0, 5, 9, 3), (1, 2, 30, 37, 10 ** 12), (1, 0, 5, 9, 3), (0, 1, 0, 19, 0))
        self.held_net(mirrored(NET), (20, 3, spans))

    def test_twice_is_as_it_was(self):
        for net in PLAIN_NETS + SMALL_NETS:
            self.held_net(mirrored(mirrored(net)), net)
            self.assertEqual([span[2:] for span in mirrored(net)[2]], [span[2:] for span in net[2]])

    def test_times_of_tables(self):
        self.held_table(NET, table_mirrored(NET, (0, 5, 19)), (0, 15, 1))
        self.held_table(NET, table_mirrored(NET, (0, 0, 0)), (0, 0, 0))
        self.held_table(NET, table_mirrored(NET, (10, 11, 9)), (10, 9, 11))
        self.held_table((1, 2, ()), table_mirrored((1, 2, ()), (0, 0)), (0, 0))
        great = (GREATEST, 3, ())
        self.held_table(great, table_mirrored(great, (0, 1, GREATEST - 1)), (0, GREATEST - 1, 1))

    def test_all_tables_of_small_nets(self):
        for net in SMALL_NETS:
            other = mirrored(net)
            for table in tables_of(net):
                there = table_mirrored(net, table)
                self.waits_alike(net, table, other, there)
                self.assertEqual(table_mirrored(other, there), table)

    def test_least_waits(self):
        for net in SMALL_NETS + tuple(small_nets_by_chance(231, 15)):
            self.assertEqual(outcome_of(mirrored(net)), outcome_of(net))

    def test_great_nets(self):
        chance = random.Random(232)
        for beat in (60, 5000, GREAT_BEAT):
            net, table = great_net(chance, beat, 16, 40)
            self.waits_alike(net, table, mirrored(net), table_mirrored(net, table))
            self.assertEqual(outcome_of(mirrored(net)), outcome_of(net))


class StretchedTest(MoveCase):
    def test_no_span(self):
        self.held_net(stretched((60, 16, ()), 3), (180, 16, ()))
        self.held_net(stretched((1, 1, ()), 10 ** 6), (10 ** 6, 1, ()))

    def test_by_1(self):
        for net in PLAIN_NETS + SMALL_NETS:
            self.held_net(stretched(net, 1), net)

    def test_spans_in_their_order_and_weights_as_they_were(self):
        spans = ((0, 1, 15, 27, 3), (2, 1, 90, 111, 10 ** 12), (0, 1, 15, 27, 3), (1, 0, 0, 57, 0))
        self.held_net(stretched(NET, 3), (60, 3, spans))

    def test_by_a_million(self):
        spans = ((0, 1, 5000000, 9000000, 3), (2, 1, 30000000, 37000000, 10 ** 12), (0, 1, 5000000, 9000000, 3),
                 (1, 0, 0, 19000000, 0))
        self.held_net(stretched(NET, 10 ** 6), (20000000, 3, spans))

    def test_up_to_sixty_figures(self):
        great = 10 ** 54 - 1
        net = (great, 2, ((0, 1, great, great, 1), (1, 0, 0, great - 1, 10 ** 12)))
        spans = ((0, 1, great * 10 ** 6, great * 10 ** 6, 1), (1, 0, 0, (great - 1) * 10 ** 6, 10 ** 12))
        self.held_net(stretched(net, 10 ** 6), (great * 10 ** 6, 2, spans))

    def test_times_of_tables(self):
        self.held_table((60, 3, ()), table_stretched((0, 5, 19), 3), (0, 15, 57))
        self.held_table(NET, table_stretched((0, 5, 19), 1), (0, 5, 19))
        self.held_table((20 * 10 ** 6, 3, ()), table_stretched((0, 5, 19), 10 ** 6), (0, 5 * 10 ** 6, 19 * 10 ** 6))
        self.held_table((7, 2, ()), table_stretched((0, 0), 7), (0, 0))
        great = 10 ** 54 - 1
        self.held_table((great * 10 ** 6, 2, ()), table_stretched((0, great - 1), 10 ** 6), (0, (great - 1) * 10 ** 6))

    def test_all_tables_of_small_nets(self):
        for net in SMALL_NETS:
            for number in FACTORS:
                other = stretched(net, number)
                for table in tables_of(net):
                    self.waits_alike(net, table, other, table_stretched(table, number), number)

    def test_least_waits(self):
        # The widths grow with the net, so the factors are small where the cases are not to be too many.
        for net in SMALL_NETS + tuple(small_nets_by_chance(233, 8)):
            for number in (1, 2, 3):
                self.assertEqual(outcome_of(stretched(net, number)), stretched_outcome(net, number))

    def test_least_waits_of_narrow_nets_by_a_million(self):
        ring = ((0, 1, 2, 2, 3), (1, 2, 4, 4, 0), (2, 0, 3, 5, 10 ** 12))
        none = ((0, 1, 2, 2, 3), (1, 2, 4, 4, 0), (2, 0, 5, 5, 10 ** 12))
        for spans, wait in ((ring, 10 ** 12), (none, None)):
            net = (10, 3, spans)
            self.assertEqual(outcome_of(net), wait)
            for number in FACTORS:
                self.assertEqual(outcome_of(stretched(net, number)), stretched_outcome(net, number))

    def test_between_the_stretched_times_there_is_nothing_more(self):
        # All tables of the stretched net, also those that are none of the net's own stretched.
        for net in [net for net in SMALL_NETS if (2 * net[0]) ** net[1] <= 5000]:
            other = stretched(net, 2)
            waits = [wait_of(other, table) for table in tables_of(other) if fits(other, table)]
            self.assertEqual(min(waits, default=None), stretched_outcome(net, 2))


class NamedAnewTest(MoveCase):
    def test_an_order_that_changes_nothing(self):
        for net in PLAIN_NETS + SMALL_NETS:
            order = tuple(range(net[1]))
            self.held_net(named_anew(net, order), net)
            self.held_table(net, table_named_anew(net, (0,) * net[1], order), (0,) * net[1])
        self.held_table(NET, table_named_anew(NET, (4, 9, 2), (0, 1, 2)), (4, 9, 2))

    def test_turned_about(self):
        spans = ((2, 1, 5, 9, 3), (0, 1, 30, 37, 10 ** 12), (2, 1, 5, 9, 3), (1, 2, 0, 19, 0))
        self.held_net(named_anew(NET, (2, 1, 0)), (20, 3, spans))
        self.held_table(NET, table_named_anew(NET, (4, 9, 2), (2, 1, 0)), (2, 9, 4))

    def test_mixed(self):
        # The new 0 is the old 1, the new 1 the old 2, the new 2 the old 0.
        spans = ((2, 0, 5, 9, 3), (1, 0, 30, 37, 10 ** 12), (2, 0, 5, 9, 3), (0, 2, 0, 19, 0))
        self.held_net(named_anew(NET, (1, 2, 0)), (20, 3, spans))
        self.held_table(NET, table_named_anew(NET, (4, 9, 2), (1, 2, 0)), (9, 2, 4))
        spans = ((1, 2, 5, 9, 3), (0, 2, 30, 37, 10 ** 12), (1, 2, 5, 9, 3), (2, 1, 0, 19, 0))
        self.held_net(named_anew(NET, (2, 0, 1)), (20, 3, spans))
        self.held_table(NET, table_named_anew(NET, (4, 9, 2), (2, 0, 1)), (2, 4, 9))

    def test_sixteen_happenings_and_one(self):
        net = (60, 16, tuple((k, k + 1, k, k, k) for k in range(15)))
        order = tuple(range(1, 16)) + (0,)
        spans = tuple(((k - 1) % 16, k, k, k, k) for k in range(15))
        self.held_net(named_anew(net, order), (60, 16, spans))
        self.held_table(net, table_named_anew(net, tuple(range(16)), order), order)
        self.held_net(named_anew((GREATEST, 1, ()), (0,)), (GREATEST, 1, ()))
        self.held_table((GREATEST, 1, ()), table_named_anew((GREATEST, 1, ()), (7,), (0,)), (7,))

    def test_one_order_behind_another(self):
        table = (4, 9, 2)
        for one, other in itertools.product(itertools.permutations(range(3)), repeat=2):
            both = tuple(one[k] for k in other)
            self.assertEqual(named_anew(named_anew(NET, one), other), named_anew(NET, both))
            self.assertEqual(table_named_anew(NET, table_named_anew(NET, table, one), other),
                             table_named_anew(NET, table, both))

    def test_all_tables_of_small_nets(self):
        for net in SMALL_NETS:
            for order in list(itertools.permutations(range(net[1])))[:7]:
                other = named_anew(net, order)
                self.assertIs(is_net(other), True)
                for table in tables_of(net):
                    self.waits_alike(net, table, other, table_named_anew(net, table, order))

    def test_least_waits(self):
        chance = random.Random(234)
        for net in SMALL_NETS + tuple(small_nets_by_chance(235, 15)):
            order = tuple(chance.sample(range(net[1]), net[1]))
            self.assertEqual(outcome_of(named_anew(net, order)), outcome_of(net))

    def no_order(self, net, table, thing):
        refused(self, NoOrder, named_anew, net, thing)
        refused(self, NoOrder, table_named_anew, net, table, thing)

    def test_too_few_and_too_many(self):
        for thing in ((), (0,), (0, 1), (1, 2), (0, 1, 2, 3), (0, 1, 2, 0), (0, 1, 2, 2), (3, 2, 1, 0),
                      tuple(range(16)), tuple(range(40))):
            self.no_order(NET, (4, 9, 2), thing)
        for thing in ((), (0, 1), (0, 0)):
            self.no_order((60, 1, ()), (5,), thing)

    def test_one_twice(self):
        for thing in ((0, 0, 1), (0, 1, 1), (2, 1, 2), (0, 0, 0), (1, 1, 1)):
            self.no_order(NET, (4, 9, 2), thing)

    def test_numbers_that_are_none_of_the_net_s(self):
        for thing in ((0, 1, 3), (1, 2, 3), (-1, 0, 1), (0, 1, -1), (0, -2, -1), (-3, -2, -1), (0, 1, GREATEST),
                      (0, 1, -GREATEST), (4, 9, 2)):
            self.no_order(NET, (4, 9, 2), thing)
        for thing in ((1,), (-1,), (GREATEST,)):
            self.no_order((60, 1, ()), (5,), thing)

    def test_truths_and_other_things(self):
        for thing in ((0, True, 2), (False, 1, 2), (2, True, False), [0, 1, 2], range(3), None, "012", 0, {0: 0, 1: 1},
                      (0, 1, None), (0, 1, "2"), (0, (1,), 2), (0, 1.0, 2), Odd(), (0, 1, Odd())):
            self.no_order(NET, (4, 9, 2), thing)

    def test_also_for_a_net_without_spans_and_of_sixteen(self):
        net = (60, 16, ())
        for thing in (tuple(range(15)), tuple(range(17)), tuple(range(1, 17)), (0,) * 16, tuple(range(15)) + (14,)):
            self.no_order(net, (0,) * 16, thing)


class SideBySideTest(MoveCase):
    def test_nets_without_spans(self):
        self.held_net(side_by_side((60, 1, ()), (60, 1, ())), (60, 2, ()))
        self.held_net(side_by_side((60, 5, ()), (60, 11, ())), (60, 16, ()))
        self.held_net(side_by_side((60, 3, ()), (60, 2, ((0, 1, 5, 9, 3),))), (60, 5, ((3, 4, 5, 9, 3),)))
        self.held_net(side_by_side((60, 2, ((0, 1, 5, 9, 3),)), (60, 3, ())), (60, 5, ((0, 1, 5, 9, 3),)))
        self.held_net(side_by_side((1, 1, ()), (1, 1, ())), (1, 2, ()))

    def test_spans_numbered_on(self):
        other = (20, 2, ((1, 0, 7, 8, 9), (0, 1, 25, 44, 0)))
        self.held_net(side_by_side(NET, other), (20, 5, NET[2] + ((4, 3, 7, 8, 9), (3, 4, 25, 44, 0))))
        behind = tuple((start + 2, goal + 2, least, most, weight) for start, goal, least, most, weight in NET[2])
        self.held_net(side_by_side(other, NET), (20, 5, other[2] + behind))

    def test_a_net_beside_itself(self):
        net = (GREATEST, 2, ((0, 1, 0, GREATEST - 1, 7),))
        self.held_net(side_by_side(net, net), (GREATEST, 4, net[2] + ((2, 3, 0, GREATEST - 1, 7),)))

    def test_three_nets(self):
        one, other, third = (9, 2, ((0, 1, 1, 2, 3),)), (9, 1, ()), (9, 2, ((1, 0, 4, 5, 6),))
        self.held_net(side_by_side(side_by_side(one, other), third), side_by_side(one, side_by_side(other, third)))

    def test_unlike_beats(self):
        for one, other in ((60, 61), (61, 60), (1, 2), (60, 30), (GREATEST, GREATEST - 1)):
            refused(self, OtherBeats, side_by_side, (one, 2, ()), (other, 2, ()))
            refused(self, OtherBeats, side_by_side, (one, 2, ((0, 1, 0, 0, 0),)), (other, 2, ((0, 1, 0, 0, 0),)))

    def test_unlike_beats_where_there_would_be_too_many(self):
        span = (0, 1, 0, 0, 0)
        refused(self, OtherBeats, side_by_side, (60, 16, ()), (61, 1, ()))
        refused(self, OtherBeats, side_by_side, (60, 2, (span,) * 40), (61, 2, (span,)))
        refused(self, OtherBeats, side_by_side, (60, 16, (span,) * 40), (61, 16, (span,) * 40))

    def test_sixteen_happenings_and_seventeen(self):
        for one in range(1, 16):
            self.held_net(side_by_side((60, one, ()), (60, 16 - one, ())), (60, 16, ()))
            too_great(self, 17, 16, side_by_side, (60, one, ()), (60, 17 - one, ()))
        too_great(self, 17, 16, side_by_side, (60, 16, ()), (60, 1, ()))
        too_great(self, 32, 16, side_by_side, (60, 16, ()), (60, 16, ()))

    def test_forty_spans_and_forty_one(self):
        span = (0, 1, 5, 9, 3)
        behind = (2, 3, 5, 9, 3)
        for one in (0, 1, 20, 39, 40):
            nets = ((60, 2, (span,) * one), (60, 2, (span,) * (40 - one)))
            self.held_net(side_by_side(*nets), (60, 4, (span,) * one + (behind,) * (40 - one)))
        for one in (1, 20, 40):
            too_great(self, 41, 40, side_by_side, (60, 2, (span,) * one), (60, 2, (span,) * (41 - one)))
        too_great(self, 80, 40, side_by_side, (60, 2, (span,) * 40), (60, 2, (span,) * 40))

    def test_too_many_happenings_and_too_many_spans(self):
        span = (0, 1, 5, 9, 3)
        too_great(self, 17, 16, side_by_side, (60, 15, (span,) * 40), (60, 2, (span,)))
        too_great(self, 32, 16, side_by_side, (60, 16, (span,) * 40), (60, 16, (span,) * 40))
        too_great(self, 41, 40, side_by_side, (60, 14, (span,) * 40), (60, 2, (span,)))

    def test_tables_side_by_side(self):
        for one, other in itertools.product(SMALL_NETS, repeat=2):
            if one[0] != other[0] or one[0] ** (one[1] + other[1]) > 20000:
                continue
            both = side_by_side(one, other)
            for table in tables_of(both):
                parts = (table[:one[1]], table[one[1]:])
                self.assertIs(fits(both, table), fits(one, parts[0]) and fits(other, parts[1]))
                self.assertEqual(waits_of(both, table), waits_of(one, parts[0]) + waits_of(other, parts[1]))
                self.assertEqual(wait_of(both, table), wait_of(one, parts[0]) + wait_of(other, parts[1]))

    def test_least_waits_come_to_that_of_both(self):
        told = {True: 0, False: 0}
        nets = SMALL_NETS + tuple(small_nets_by_chance(236, 10))
        for one, other in zip(nets, nets[1:] + nets[:1]):
            other = (one[0], other[1], tuple(span[:3] + (min(span[3], span[2] + one[0] - 1),) + span[4:]
                                             for span in other[2]))
            self.assertIs(is_net(other), True)
            outcomes = (outcome_of(one), outcome_of(other))
            both = side_by_side(one, other)
            self.assertEqual(outcome_of(both), None if None in outcomes else sum(outcomes))
            told[None in outcomes] += 1
        self.assertGreater(min(told.values()), 5)

    def test_a_tree_where_one_of_both_has_no_table(self):
        dead = (20, 2, ((0, 1, 5, 5, 3), (1, 0, 5, 5, 3)))
        for both in (side_by_side(NET[:2] + (NET[2][:3],), dead), side_by_side(dead, NET[:2] + (NET[2][:3],))):
            told = table_for(both)
            self.assertEqual(told[0], "none")
            self.assertTrue(is_told_tree(both, told[1]))


class MovedTest(MoveCase):
    def test_one_change_behind_another(self):
        chance = random.Random(237)
        for net in small_nets_by_chance(238, 10):
            table = chance.choice(tables_of(net))
            order = tuple(chance.sample(range(net[1]), net[1]))
            number = chance.randint(1, 10 ** 6)
            there = named_anew(stretched(mirrored(net), number), order)
            other = table_named_anew(net, table_stretched(table_mirrored(net, table), number), order)
            self.waits_alike(net, table, there, other, number)
            self.waits_alike(net, table, there, moved_by(there, other, chance.randint(-GREATEST, GREATEST)), number)


if __name__ == "__main__":
    unittest.main()
