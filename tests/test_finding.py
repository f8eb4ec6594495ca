"""Some table that fits, or a tree by which there is none: points 2, 3, 13, 16 and 18."""

import random
import unittest

from hourtable.errors import HourError, TooGreat
from hourtable.finding import table_for
from hourtable.forests import cases_of, forest_of
from hourtable.nets import is_net
from hourtable.rings import is_ring
from hourtable.tables import broken_in, fits, is_table, waits_of
from hourtable.trees import leaves_of, shown_by
from tests.samples import (GREATEST, GREAT_BEAT, PLAIN_NETS, SMALL_NETS, gapped_net, great_net,
                           groetzsch_pairs, is_plain, is_told_tree, small_nets_by_chance, tables_of, unlike_net)


def one_span_net(beat, width):
    """A net of width and 1 together as many cases."""
    return (beat, 2, ((0, 1, 3, 3 + width, 1),))


class FindingCase(unittest.TestCase):
    def told(self, net):
        """What is told of a net, held against what 13 and 16 say of it."""
        self.assertIs(is_net(net), True)
        told = table_for(net)
        self.assertTrue(is_plain(told))
        self.assertEqual(len(told), 2)
        if told[0] == "table":
            self.assertIs(is_table(net, told[1]), True)
            self.assertIs(fits(net, told[1]), True, net)
        else:
            self.assertEqual(told[0], "none")
            self.assertTrue(is_told_tree(net, told[1]))
            self.assertEqual(shown_by(net, told[1]), ("none",))
        return told

    def told_table(self, net):
        told = self.told(net)
        self.assertEqual(told[0], "table", net)
        return told[1]

    def told_none(self, net):
        told = self.told(net)
        self.assertEqual(told[0], "none", net)
        return told[1]


class OrdinaryTest(FindingCase):
    def test_a_plain_net(self):
        net = (60, 3, ((0, 1, 5, 9, 3), (1, 2, 20, 25, 1), (2, 0, 28, 40, 2)))
        table = self.told_table(net)
        self.assertEqual(broken_in(net, table), ())

    def test_a_ring_that_can_t_come_to_a_beat(self):
        net = (60, 3, ((0, 1, 5, 9, 3), (1, 2, 20, 25, 1), (2, 0, 20, 25, 2)))
        tree = self.told_none(net)
        self.assertEqual(tree[0], "ring")
        self.assertIs(is_ring(net, tree[1]), True)
        self.assertEqual(sorted(span for span, _ in tree[1]), [0, 1, 2])

    def test_no_spans(self):
        for net in ((1, 1, ()), (60, 1, ()), (60, 16, ()), (GREATEST, 1, ()), (GREATEST, 16, ())):
            self.assertEqual(len(self.told_table(net)), net[1])

    def test_one_span(self):
        self.assertEqual(waits_of((60, 2, ((0, 1, 7, 7, 1),)), self.told_table((60, 2, ((0, 1, 7, 7, 1),)))), (0,))
        self.told_table((60, 2, ((1, 0, 7, 66, 1),)))
        self.told_table((60, 16, ((15, 3, 61, 70, 1),)))

    def test_sixteen_happenings_in_a_row_and_in_a_ring(self):
        row = tuple((k, k + 1, 7 * k, 7 * k, k) for k in range(15))
        self.told_table((60, 16, row))
        self.told_table((60, 16, row + ((15, 0, 45, 45, 1),)))
        self.told_none((60, 16, row + ((15, 0, 46, 46, 1),)))
        self.told_none((60, 16, row + ((15, 0, 46, 104, 1),)))

    def test_parts_that_no_spans_join(self):
        good = ((0, 1, 2, 4, 1), (1, 0, 4, 6, 1))
        also = ((2, 4, 1, 3, 1), (4, 2, 2, 5, 1))
        bad = ((2, 4, 1, 2, 1), (4, 2, 1, 3, 1))
        self.told_table((6, 6, good + also))
        self.told_table((6, 6, also))
        self.told_none((6, 6, good + bad))
        self.told_none((6, 6, bad + good))
        self.told_none((6, 6, bad))

    def test_the_plain_nets(self):
        for net in PLAIN_NETS:
            if cases_of(net) <= 4096:
                self.told(net)


class EdgesTest(FindingCase):
    def test_a_beat_of_one(self):
        self.assertEqual(self.told_table((1, 1, ())), (0,))
        spans = tuple((k % 16, (k + 5) % 16, k, k, k) for k in range(40))
        self.assertEqual(self.told_table((1, 16, spans)), (0,) * 16)

    def test_a_beat_of_sixty_figures(self):
        for beat in (10 ** 59, GREATEST):
            self.told_table((beat, 2, ((0, 1, 0, 0, 7), (1, 0, beat, beat, 0))))
            self.told_none((beat, 2, ((0, 1, 0, 0, 7), (1, 0, beat - 1, beat - 1, 0))))
            net = (beat, 3, ((0, 1, beat - 1, beat - 1, 7), (1, 2, 5, 5, 0), (0, 2, 4, beat - 1, 1)))
            self.assertEqual(waits_of(net, self.told_table(net)), (0, 0, 0))
            self.told_none((beat, 3, net[2][:2] + ((0, 2, 5, beat - 1, 1),)))

    def test_widths_of_nought(self):
        self.told_table((10, 3, ((0, 1, 3, 3, 1), (1, 2, 4, 4, 1), (2, 0, 3, 3, 1))))
        for last in (0, 1, 2, 4, 5, 6, 7, 8, 9):
            self.told_none((10, 3, ((0, 1, 3, 3, 1), (1, 2, 4, 4, 1), (2, 0, last, last, 1))))

    def test_widths_of_beat_less_one(self):
        for least in range(12):
            self.told_table((6, 2, ((0, 1, least, least + 5, 1), (0, 1, 3, 3, 1), (1, 0, 2, 7, 1))))
            self.told_table((6, 2, ((0, 1, least, least + 5, 1), (1, 0, 2, 7, 1))))

    def test_leasts_above_the_beat(self):
        net = (10, 3, ((0, 1, 123, 124, 1), (1, 2, 10 ** 40, 10 ** 40 + 2, 1), (2, 0, 27, 27, 1)))
        self.assertEqual(sum(waits_of(net, self.told_table(net))), 0)
        self.told_none((10, 3, net[2][:2] + ((2, 0, 28, 28, 1),)))
        self.told_table((10, 3, net[2][:2] + ((2, 0, 24, 24, 1),)))
        self.told_none((10, 3, net[2][:2] + ((2, 0, 23, 23, 1),)))

    def test_two_spans_that_can_t_both_be_kept(self):
        self.told_none((60, 2, ((0, 1, 5, 9, 3), (0, 1, 10, 20, 1))))
        self.told_none((60, 2, ((0, 1, 5, 9, 3), (0, 1, 10, 64, 1))))
        self.told_table((60, 2, ((0, 1, 5, 9, 3), (0, 1, 9, 20, 1))))
        self.told_table((60, 2, ((0, 1, 5, 9, 3), (0, 1, 10, 65, 1))))
        self.told_none((60, 2, ((0, 1, 5, 9, 3), (1, 0, 5, 50, 1))))
        self.told_table((60, 2, ((0, 1, 5, 9, 3), (1, 0, 5, 51, 1))))
        self.told_none((60, 2, ((0, 1, 5, 9, 3), (1, 0, 56, 110, 1))))
        self.told_table((60, 2, ((0, 1, 5, 9, 3), (1, 0, 55, 110, 1))))
        self.told_table((60, 2, ((0, 1, 5, 9, 3), (1, 0, 56, 111, 1))))

    def test_spans_kept_just_at_least_or_just_at_most(self):
        three = ((0, 1, 10, 15, 1), (1, 2, 20, 22, 1), (2, 3, 5, 9, 1))
        least = (60, 4, three + ((3, 0, 25, 27, 1),))
        self.assertEqual(waits_of(least, self.told_table(least)), (0, 0, 0, 0))
        self.told_none((60, 4, three + ((3, 0, 26, 28, 1),)))
        most = (60, 4, three + ((3, 0, 10, 14, 1),))
        self.assertEqual(waits_of(most, self.told_table(most)), (5, 2, 4, 4))
        self.told_none((60, 4, three + ((3, 0, 9, 13, 1),)))
        turned = (60, 3, ((0, 1, 10, 15, 1), (2, 1, 20, 27, 1), (0, 2, 41, 43, 1)))
        self.assertEqual(waits_of(turned, self.told_table(turned)), (0, 7, 2))
        self.told_none((60, 3, turned[2][:2] + ((0, 2, 40, 42, 1),)))

    def test_any_two_spans_can_be_kept_but_not_all(self):
        tree = self.told_none((6, 2, ((0, 1, 0, 3, 1), (0, 1, 2, 5, 1), (0, 1, 4, 7, 1))))
        self.assertEqual(tree[0], "cut")


class AllTablesTest(FindingCase):
    def test_a_table_is_told_just_where_one_fits(self):
        kinds = {"table": 0, "none": 0}
        for net in SMALL_NETS + tuple(small_nets_by_chance(16, 100)):
            told = self.told(net)
            kinds[told[0]] += 1
            self.assertEqual(told[0] == "table", any(fits(net, table) for table in tables_of(net)), net)
        self.assertGreater(min(kinds.values()), 40)

    def test_cuts_are_needed_and_told(self):
        chance = random.Random(17)
        cuts = 0
        for turn in range(600):
            net = great_net(chance, 6, 4, 5 + turn % 4, 1, True, 20)[0]
            told = self.told(net)
            self.assertEqual(told[0] == "table", any(fits(net, table) for table in tables_of(net)), net)
            cuts += told[1][0] == "cut"
        self.assertGreater(cuts, 10)


class TooGreatTest(FindingCase):
    def refused(self, net, many):
        self.assertIs(is_net(net), True)
        with self.assertRaises(TooGreat) as refusal:
            table_for(net)
        self.assertIs(type(refusal.exception), TooGreat)
        self.assertIsInstance(refusal.exception, HourError)
        self.assertEqual((refusal.exception.many, refusal.exception.most), (many, 4096))
        self.assertIs(type(refusal.exception.many), int)

    def test_one_span(self):
        self.told_table(one_span_net(10000, 4094))
        self.told_table(one_span_net(10000, 4095))
        self.refused(one_span_net(10000, 4096), 4097)
        self.refused(one_span_net(10000, 9999), 10000)
        self.told_table(one_span_net(4096, 4095))
        self.refused(one_span_net(GREATEST, GREATEST - 4), GREATEST - 3)

    def test_several_spans(self):
        def row(*widths):
            return (60, 16, tuple((k, k + 1, k, k + width, 1) for k, width in enumerate(widths)))
        self.told_table(row(2, 2, 4, 6, 12))
        self.told_table(row(*[1] * 12))
        self.told_table(row(*[3] * 6, *[0] * 9))
        self.refused((300, 16, ((0, 1, 0, 16, 1), (2, 1, 0, 240, 1))), 4097)
        self.refused(row(*[1] * 12, 0, 0, 1), 8192)
        self.refused(row(*[59] * 15), 60 ** 15)

    def test_very_many(self):
        spans = tuple((k, k + 1, 0, GREATEST - 1, 1) for k in range(15))
        self.refused((GREATEST, 16, spans), GREATEST ** 15)

    def test_a_net_that_none_fits_is_refused_too(self):
        self.refused((10000, 4, ((0, 1, 0, 4096, 1), (2, 3, 1, 1, 1), (2, 3, 2, 2, 1))), 4097)
        self.refused((10000, 2, ((0, 1, 0, 4096, 1), (0, 1, 5000, 9096, 1))), 4097)

    def test_wide_spans_that_aren_t_taken_make_nothing_too_great(self):
        wide = tuple((k % 16, (k + 3) % 16, k, k + GREATEST - 99, 1) for k in range(25))
        narrow = tuple((k, k + 1, 7, 7 if k < 3 else 8, 1) for k in range(15))
        net = (GREATEST, 16, wide + narrow)
        self.assertEqual((cases_of(net), forest_of(net)), (4096, tuple(range(25, 40))))
        self.told(net)
        self.told_table((10000, 2, ((0, 1, 0, 4095, 1), (0, 1, 4000, 9000, 1))))
        self.refused((10000, 2, ((0, 1, 0, 4096, 1), (0, 1, 4000, 9000, 1))), 4097)


class GreatTest(FindingCase):
    def test_nets_with_a_table_that_keeps_all(self):
        chance = random.Random(163)
        near = 0
        for beat in (7, 60, 5000, GREAT_BEAT):
            for many, spans in ((2, 40), (5, 12), (16, 15), (16, 24), (16, 40)):
                for parts in (1, 2) if many > 2 else (1,):
                    net, table = great_net(chance, beat, many, spans, parts)
                    self.assertIs(fits(net, table), True)
                    near += 3000 <= cases_of(net) <= 4096
                    self.told_table(net)
        self.assertGreater(near, 20)

    def test_nets_whose_spans_pull_against_one_another(self):
        chance = random.Random(164)
        kinds = {"table": 0, "none": 0}
        leaves = []
        for turn in range(60):
            beat = chance.choice((60, 5000, GREAT_BEAT))
            net = great_net(chance, beat, 16, 16 + turn % 20, chance.choice((1, 2)), True)[0]
            told = self.told(net)
            kinds[told[0]] += 1
            if told[0] == "none":
                leaves.append(len(leaves_of(net, told[1])))
        self.assertGreater(min(kinds.values()), 5)
        self.assertGreater(max(leaves), 10)

    def test_unlike_times(self):
        pairs = groetzsch_pairs()
        more = [(11, 0), (2, 12)]
        net = unlike_net(3, 13, pairs + more)
        self.assertEqual(cases_of(net), 4096)
        self.assertGreater(len(leaves_of(net, self.told_none(net))), 20)
        for number in range(len(pairs)):
            self.told_table(unlike_net(3, 13, pairs[:number] + pairs[number + 1:] + more))

    def test_forty_spans_that_leave_no_length(self):
        net = gapped_net(4202, 106, 40)
        self.assertEqual(cases_of(net), 4096)
        leaves = leaves_of(net, self.told_none(net))
        self.assertGreater(len(leaves), 30)

    def test_forty_spans_that_leave_one_length(self):
        net = gapped_net(40 * 102 + 1, 102, 40)
        self.assertEqual(cases_of(net), 3979)
        table = self.told_table(net)
        self.assertEqual((table[1] - table[0]) % net[0], 4080)
        self.told_none(gapped_net(40 * 102, 102, 40))


if __name__ == "__main__":
    unittest.main()
