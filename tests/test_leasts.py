"""The table that waits least, with a tree that shows it: points 2, 3, 13, 17 and 18."""

import random
import unittest

from hourtable.errors import HourError, TooGreat
from hourtable.finding import table_for
from hourtable.forests import cases_of
from hourtable.leasts import best_for
from hourtable.nets import is_net
from hourtable.tables import fits, is_table, wait_of, waits_of
from hourtable.trees import shown_by
from tests.samples import (GREATEST, GREAT_BEAT, PLAIN_NETS, SMALL_NETS, gapped_net, great_net, groetzsch_pairs,
                           is_plain, is_told_tree, small_nets_by_chance, tables_of, unlike_net)


def least_wait(net):
    """The least that a table that fits waits, all tables gone through, or None."""
    return min([wait_of(net, table) for table in tables_of(net) if fits(net, table)], default=None)


def weighted(net, weights):
    """The net with other weights."""
    return (net[0], net[1], tuple(span[:4] + (weight,) for span, weight in zip(net[2], weights, strict=True)))


class LeastCase(unittest.TestCase):
    def told(self, net):
        """What is told of a net, held against what 13 and 17 say of it."""
        self.assertIs(is_net(net), True)
        told = best_for(net)
        self.assertTrue(is_plain(told))
        self.assertTrue(is_told_tree(net, told[-1]))
        if told[0] == "best":
            self.assertEqual(len(told), 4)
            self.assertIs(is_table(net, told[1]), True)
            self.assertIs(fits(net, told[1]), True)
            self.assertEqual(told[2], wait_of(net, told[1]))
            self.assertEqual(shown_by(net, told[3]), ("wait", told[2]))
        else:
            self.assertEqual((told[0], len(told)), ("none", 2))
            self.assertEqual(shown_by(net, told[1]), ("none",))
        return told

    def told_wait(self, net, wait):
        told = self.told(net)
        self.assertEqual((told[0], told[2]), ("best", wait), net)
        return told[1]

    def told_none(self, net):
        self.assertEqual(self.told(net)[0], "none", net)


class OrdinaryTest(LeastCase):
    def test_no_spans(self):
        for net in ((1, 1, ()), (60, 1, ()), (60, 16, ()), (GREATEST, 16, ())):
            self.told_wait(net, 0)

    def test_one_span(self):
        self.told_wait((60, 2, ((0, 1, 5, 9, 3),)), 0)
        self.told_wait((60, 2, ((1, 0, 65, 124, 10 ** 12),)), 0)

    def test_a_ring_waits_where_it_waits_least(self):
        spans = ((0, 1, 10, 20, 3), (1, 2, 10, 16, 1), (2, 0, 30, 45, 2))
        net = (60, 3, spans)
        # Ten must be waited in all: span 1 takes six by weight 1, span 2 the other four by weight 2.
        table = self.told_wait(net, 6 * 1 + 4 * 2)
        self.assertEqual(waits_of(net, table), (0, 6, 4))
        self.told_wait(weighted(net, (1, 2, 3)), 10)
        self.told_wait(weighted(net, (7, 0, 3)), 12)
        self.told_wait(weighted(net, (0, 7, 3)), 0)
        self.told_wait(weighted(net, (4, 4, 4)), 40)
        self.told_wait(weighted(net, (0, 0, 0)), 0)
        self.told_wait(weighted(net, (10 ** 12, 10 ** 12, 10 ** 12)), 10 ** 13)
        self.told_wait(weighted(net, (10 ** 12, 10 ** 12 - 1, 10 ** 12)), 10 ** 13 - 6)

    def test_a_change_both_ways(self):
        # The two waits come to 50 together, whatever the table is.
        net = (60, 2, ((0, 1, 5, 64, 3), (1, 0, 5, 64, 4), (0, 1, 0, 29, 0)))
        self.assertEqual(waits_of(net, self.told_wait(net, 24 * 3 + 26 * 4)), (24, 26, 29))
        self.told_wait(weighted(net, (4, 3, 0)), 50 * 3)
        self.told_wait(weighted(net, (10 ** 12, 1, 0)), 50)

    def test_great_weights_that_pull_against_one_another(self):
        great = 10 ** 12
        net = (60, 3, ((0, 1, 5, 25, great), (2, 1, 5, 25, great), (0, 2, 10, 19, great - 1), (2, 0, 0, 59, great)))
        # Span 0 is as long as spans 1 and 2 together, and spans 2 and 3 are one beat together.
        self.told_wait(net, 60 * great)
        self.told_wait(weighted(net, (1, great, great, 1)), 60)
        self.told_wait(weighted(net, (1, 1, great, great)), 50 * great + 10)
        table = self.told_wait(weighted(net, (1, 1, great - 2, great)), 50 * great + 1)
        self.assertEqual(waits_of(net, table), (19, 0, 9, 41))

    def test_none_fits(self):
        self.told_none((60, 3, ((0, 1, 5, 9, 3), (1, 2, 20, 25, 1), (2, 0, 20, 25, 2))))
        self.told_none((6, 2, ((0, 1, 0, 3, 1), (0, 1, 2, 5, 1), (0, 1, 4, 7, 1))))
        self.told_none((60, 4, ((0, 1, 5, 9, 3), (2, 3, 1, 1, 10 ** 12), (2, 3, 2, 2, 0))))

    def test_parts_that_no_spans_join(self):
        one = ((0, 1, 5, 9, 3), (1, 0, 5, 60, 1))
        other = ((2, 3, 7, 9, 2), (3, 2, 40, 60, 9))
        self.told_wait((60, 4, one), 46 + 4 * 1)
        self.told_wait((60, 4, other), 2 * 2 + 11 * 9)
        self.told_wait((60, 4, one + other), 50 + 103)

    def test_the_plain_nets(self):
        for net in PLAIN_NETS:
            if cases_of(net) <= 4096:
                self.told(net)


class EdgesTest(LeastCase):
    def test_a_beat_of_one(self):
        spans = tuple((k % 16, (k + 5) % 16, k, k, 10 ** 12) for k in range(40))
        self.told_wait((1, 16, spans), 0)

    def test_a_beat_of_sixty_figures(self):
        half = GREATEST // 2
        net = (GREATEST, 2, ((0, 1, half, half + 5, 10 ** 12), (1, 0, 0, GREATEST - 1, 10 ** 12 - 1)))
        self.told_wait(net, (GREATEST - half) * (10 ** 12 - 1))
        self.told_wait(weighted(net, (10 ** 12 - 1, 10 ** 12)), (GREATEST - half - 5) * 10 ** 12 + 5 * (10 ** 12 - 1))
        self.told_wait(weighted(net, (1, 0)), 0)
        self.told_wait(weighted(net, (0, 1)), GREATEST - half - 5)

    def test_widths_of_nought(self):
        net = (10, 3, ((0, 1, 3, 3, 10 ** 12), (1, 2, 4, 4, 1), (2, 0, 3, 3, 1), (0, 2, 0, 9, 5)))
        self.told_wait(net, 35)

    def test_leasts_above_the_beat(self):
        net = (10, 2, ((0, 1, 127, 129, 4), (1, 0, 10 ** 40, 10 ** 40 + 9, 3)))
        # The lengths are 127 and 3 beyond a beat: three are waited, by either.
        self.told_wait(net, 9)
        self.told_wait(weighted(net, (3, 4)), 2 * 3 + 4)

    def test_only_the_widest_lengths_fit(self):
        net = (60, 4, ((0, 1, 10, 15, 1), (1, 2, 20, 22, 2), (2, 3, 5, 9, 3), (3, 0, 10, 14, 4)))
        self.told_wait(net, 5 + 2 * 2 + 4 * 3 + 4 * 4)


class AllTablesTest(LeastCase):
    def told_least(self, net):
        least = least_wait(net)
        if least is None:
            self.told_none(net)
        else:
            self.told_wait(net, least)
        self.assertEqual(least is None, table_for(net)[0] == "none")
        return least

    def test_none_that_fits_waits_less(self):
        leasts = [self.told_least(net) for net in SMALL_NETS + tuple(small_nets_by_chance(171, 100))]
        self.assertGreater(leasts.count(None), 20)
        self.assertGreater(len([least for least in leasts if least]), 50)

    def test_spans_that_pull_against_one_another(self):
        chance = random.Random(172)
        leasts = [self.told_least(great_net(chance, 7, 4, 5 + turn % 5, 1, turn % 2 == 0, 60)[0]) for turn in range(80)]
        self.assertGreater(len([least for least in leasts if least]), 30)

    def test_other_weights(self):
        chance = random.Random(173)
        for net in SMALL_NETS:
            many = len(net[2])
            for weights in ((0,) * many, (1,) * many, (10 ** 12,) * many):
                self.told_least(weighted(net, weights))
            for _ in range(5):
                self.told_least(weighted(net, [chance.randrange(4) for _ in range(many)]))


class TooGreatTest(LeastCase):
    def refused(self, net, many):
        with self.assertRaises(TooGreat) as refusal:
            best_for(net)
        self.assertIs(type(refusal.exception), TooGreat)
        self.assertIsInstance(refusal.exception, HourError)
        self.assertEqual((refusal.exception.many, refusal.exception.most), (many, 4096))

    def test_one_span(self):
        self.told_wait((10000, 2, ((0, 1, 3, 3 + 4094, 1),)), 0)
        self.told_wait((10000, 2, ((0, 1, 3, 3 + 4095, 1),)), 0)
        self.refused((10000, 2, ((0, 1, 3, 3 + 4096, 1),)), 4097)

    def test_several_spans(self):
        self.told_wait((60, 16, tuple((k, k + 1, k, k + 1, 1) for k in range(12))), 0)
        self.refused((60, 16, tuple((k, k + 1, k, k + 1, 1) for k in range(13))), 8192)
        self.refused((300, 16, ((0, 1, 0, 16, 1), (2, 1, 0, 240, 1))), 4097)
        self.refused((GREATEST, 16, tuple((k, k + 1, 0, GREATEST - 1, 1) for k in range(15))), GREATEST ** 15)

    def test_ahead_of_all_else(self):
        self.refused((10000, 4, ((0, 1, 0, 4096, 0), (2, 3, 1, 1, 1), (2, 3, 2, 2, 1))), 4097)
        self.refused((10000, 4, ((0, 1, 0, 4096, 0),)), 4097)

    def test_wide_spans_that_aren_t_taken_make_nothing_too_great(self):
        self.told_wait((10000, 2, ((0, 1, 0, 4095, 1), (0, 1, 4000, 9000, 1))), 4000)
        self.refused((10000, 2, ((0, 1, 0, 4096, 1), (0, 1, 4000, 9000, 1))), 4097)


class GreatTest(LeastCase):
    def test_nets_with_a_table_that_keeps_all(self):
        chance = random.Random(174)
        near = 0
        for beat in (60, 5000, GREAT_BEAT):
            for many, spans in ((2, 40), (6, 13), (16, 15), (16, 24), (16, 40)):
                for parts in (1, 2) if many > 2 else (1,):
                    net, table = great_net(chance, beat, many, spans, parts)
                    near += 3000 <= cases_of(net) <= 4096
                    told = self.told(net)
                    self.assertEqual(told[0], "best")
                    self.assertLessEqual(told[2], wait_of(net, table))
        self.assertGreater(near, 15)

    def test_nets_whose_spans_pull_against_one_another(self):
        chance = random.Random(175)
        for turn in range(30):
            beat = chance.choice((60, 5000, GREAT_BEAT))
            net = great_net(chance, beat, 16, 16 + turn % 10, chance.choice((1, 2)), True)[0]
            self.assertEqual(self.told(net)[0] == "none", table_for(net)[0] == "none")

    def test_unlike_times(self):
        pairs = groetzsch_pairs()
        self.told_none(unlike_net(3, 11, pairs))
        told = self.told(unlike_net(3, 13, pairs[1:] + [(11, 0), (2, 12)]))
        # Each of the spans waits 0 or 1.
        self.assertEqual(told[0], "best")
        self.assertLessEqual(told[2], 21)

    def test_forty_spans_that_leave_one_length(self):
        net = gapped_net(40 * 102 + 1, 102, 40)
        # Span k leaves out the lengths from 102 * k on, so it waits from 102 * (k + 1) on up to 4080.
        self.told_wait(net, sum(k * (4080 - 102 * (k + 1)) for k in range(40)))

    def test_lengths_that_all_wait_the_same(self):
        net = (5000, 2, ((0, 1, 1, 4096, 7), (1, 0, 0, 4999, 7)))
        self.told_wait(net, 7 * 4999)
        # Only the length of 0, at the edge of all 4,096, needs no beat.
        net = (5000, 2, ((0, 1, 0, 4095, 7), (1, 0, 0, 4999, 7)))
        self.assertEqual(waits_of(net, self.told_wait(net, 0)), (0, 0))
        net = (5000, 2, ((0, 1, 905, 5000, 7), (1, 0, 0, 4999, 10 ** 12)))
        self.assertEqual(waits_of(net, self.told_wait(net, 7 * 4095)), (4095, 0))


if __name__ == "__main__":
    unittest.main()
