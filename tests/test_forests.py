"""The forest of a net, the rings of the other spans, and the cases: points 2 and 12."""

import itertools
import random
import unittest

from hourtable.forests import cases_of, forest_of, ring_by
from hourtable.nets import is_net, width_of
from hourtable.rings import is_ring, is_way
from tests.samples import GREATEST, PLAIN_NETS, SMALL_NETS, is_plain


def net_of(many, *ends_and_widths):
    """A net of beat 100 with spans from these tuples (start, goal, width)."""
    return (100, many, tuple((start, goal, 7, 7 + width, 1) for start, goal, width in ends_and_widths))


def chance_nets(many):
    """Nets by chance, the same ones each time."""
    chance = random.Random(12)
    for _ in range(many):
        happenings = chance.randint(2, 16)
        spans = []
        for _ in range(chance.randint(0, 40)):
            start, goal = chance.sample(range(happenings), 2)
            least = chance.randint(0, 150)
            spans.append((start, goal, least, least + chance.choice((0, 0, 1, 2, 5, 60, 99)), chance.randint(0, 9)))
        yield (100, happenings, tuple(spans))


def joined(net, spans, begin):
    """All happenings to which steps over these spans lead from one."""
    found = {begin}
    for _ in range(net[1]):
        for span in spans:
            ends = set(net[2][span][:2])
            if ends & found:
                found |= ends
    return found


class ForestTest(unittest.TestCase):
    def told(self, net, forest, cases):
        self.assertIs(is_net(net), True)
        self.assertEqual(forest_of(net), forest)
        self.assertEqual(cases_of(net), cases)

    def test_no_spans(self):
        self.told((60, 1, ()), (), 1)
        self.told((60, 16, ()), (), 1)

    def test_one_span(self):
        self.told(net_of(2, (0, 1, 4)), (0,), 5)
        self.told(net_of(2, (1, 0, 4)), (0,), 5)
        self.told(net_of(2, (0, 1, 0)), (0,), 1)
        self.told(net_of(2, (0, 1, 99)), (0,), 100)

    def test_two_between_the_same_happenings(self):
        self.told(net_of(2, (0, 1, 4), (0, 1, 3)), (1,), 4)
        self.told(net_of(2, (0, 1, 3), (0, 1, 4)), (0,), 4)
        self.told(net_of(2, (0, 1, 4), (1, 0, 3)), (1,), 4)
        self.told(net_of(2, (1, 0, 3), (0, 1, 4)), (0,), 4)

    def test_alike_in_width_by_their_numbers(self):
        self.told(net_of(2, (0, 1, 4), (0, 1, 4), (1, 0, 4)), (0,), 5)
        self.told(net_of(3, (0, 1, 4), (1, 2, 4), (2, 0, 4)), (0, 1), 25)
        self.told(net_of(3, (0, 1, 4), (1, 2, 5), (2, 0, 4)), (0, 2), 25)
        self.told(net_of(3, (0, 1, 5), (1, 2, 4), (2, 0, 4)), (1, 2), 25)
        self.told(net_of(4, (0, 1, 4), (0, 1, 4), (2, 3, 4), (3, 2, 4), (0, 3, 4)), (0, 2, 4), 125)

    def test_it_is_the_width_not_the_least_that_counts(self):
        net = (60, 2, ((0, 1, 0, 9, 0), (0, 1, 50, 58, 0)))
        self.told(net, (1,), 9)
        net = (60, 2, ((0, 1, 0, 9, 9), (0, 1, 0, 10, 0)))
        self.told(net, (0,), 10)

    def test_told_rising_though_taken_otherwise(self):
        self.told(net_of(4, (0, 1, 9), (1, 2, 5), (2, 3, 1)), (0, 1, 2), 10 * 6 * 2)
        self.told(net_of(4, (0, 1, 9), (2, 3, 0), (1, 2, 5), (0, 2, 7), (3, 0, 2)), (1, 2, 4), 1 * 6 * 3)

    def test_narrow_ones_joined_late(self):
        # Two parts are there ahead of the span that joins them, and then a span within the whole is left out.
        net = net_of(6, (0, 1, 1), (2, 1, 1), (3, 4, 1), (5, 4, 1), (0, 5, 2), (2, 3, 3), (0, 2, 3), (3, 5, 2))
        self.told(net, (0, 1, 2, 3, 4), 2 * 2 * 2 * 2 * 3)

    def test_parts_that_no_spans_join(self):
        self.told(net_of(5, (0, 1, 3), (3, 4, 1), (1, 0, 2), (4, 3, 0)), (2, 3), 3)
        self.told(net_of(5, (1, 3, 3)), (0,), 4)

    def test_widths_of_nought_and_great_ones(self):
        self.told(net_of(3, (0, 1, 0), (1, 2, 0), (2, 0, 0)), (0, 1), 1)
        half = GREATEST // 2
        net = (GREATEST, 3, ((0, 1, 0, GREATEST - 1, 0), (1, 2, 0, GREATEST - 1, 0), (2, 0, half, GREATEST, 0)))
        self.told(net, (0, 2), GREATEST * (GREATEST - half + 1))
        net = (GREATEST, 16, tuple((k, k + 1, 0, GREATEST - 1, 0) for k in range(15)))
        self.told(net, tuple(range(15)), GREATEST ** 15)

    def test_by_chance_the_words_hold(self):
        for net in chance_nets(150):
            self.assertIs(is_net(net), True)
            order = sorted(range(len(net[2])), key=lambda span: (width_of(net, span), span))
            taken = []
            cases = 1
            for span in order:
                start, goal = net[2][span][:2]
                if goal not in joined(net, taken, start):
                    taken.append(span)
                    cases *= width_of(net, span) + 1
            self.told(net, tuple(sorted(taken)), cases)

    def test_they_are_plain(self):
        for net in PLAIN_NETS + SMALL_NETS:
            self.assertTrue(is_plain(forest_of(net)))
            self.assertIs(type(forest_of(net)), tuple)
            self.assertIs(type(cases_of(net)), int)


class RingTest(unittest.TestCase):
    def test_of_two_steps(self):
        self.assertEqual(ring_by(net_of(2, (0, 1, 4), (0, 1, 3)), 0), ((0, 1), (1, -1)))
        self.assertEqual(ring_by(net_of(2, (0, 1, 3), (0, 1, 4)), 1), ((1, 1), (0, -1)))
        self.assertEqual(ring_by(net_of(2, (0, 1, 4), (1, 0, 3)), 0), ((0, 1), (1, 1)))
        self.assertEqual(ring_by(net_of(2, (1, 0, 3), (0, 1, 4)), 1), ((1, 1), (0, 1)))
        self.assertEqual(ring_by(net_of(2, (0, 1, 4), (0, 1, 4), (1, 0, 4)), 1), ((1, 1), (0, -1)))
        self.assertEqual(ring_by(net_of(2, (0, 1, 4), (0, 1, 4), (1, 0, 4)), 2), ((2, 1), (0, 1)))

    def test_of_three_steps(self):
        self.assertEqual(ring_by(net_of(3, (0, 1, 4), (1, 2, 4), (2, 0, 4)), 2), ((2, 1), (0, 1), (1, 1)))
        self.assertEqual(ring_by(net_of(3, (0, 1, 4), (1, 2, 4), (0, 2, 4)), 2), ((2, 1), (1, -1), (0, -1)))
        self.assertEqual(ring_by(net_of(3, (1, 0, 4), (1, 2, 4), (0, 2, 4)), 2), ((2, 1), (1, -1), (0, 1)))

    def test_only_taken_spans_are_behind_its_own(self):
        # By the other spans, which aren't taken, there would be shorter ways back.
        net = net_of(4, (0, 1, 1), (1, 2, 1), (2, 3, 1), (3, 0, 50), (0, 3, 50))
        self.assertEqual(ring_by(net, 3), ((3, 1), (0, 1), (1, 1), (2, 1)))
        self.assertEqual(ring_by(net, 4), ((4, 1), (2, -1), (1, -1), (0, -1)))

    def test_past_boughs_that_lead_elsewhere(self):
        net = net_of(7, (0, 1, 0), (1, 2, 0), (1, 3, 0), (4, 3, 0), (3, 5, 0), (2, 6, 0), (6, 4, 9), (0, 5, 9))
        self.assertEqual(ring_by(net, 6), ((6, 1), (3, 1), (2, -1), (1, 1), (5, 1)))
        self.assertEqual(ring_by(net, 7), ((7, 1), (4, -1), (2, -1), (0, -1)))

    def test_of_sixteen_steps(self):
        net = net_of(16, *[(k, k + 1, 3) for k in range(15)], (15, 0, 4))
        self.assertEqual(ring_by(net, 15), ((15, 1),) + tuple((k, 1) for k in range(15)))
        net = net_of(16, (0, 15, 4), *[(k, k + 1, 3) for k in range(15)])
        self.assertEqual(ring_by(net, 0), ((0, 1),) + tuple((k + 1, -1) for k in reversed(range(15))))

    def test_in_each_part_of_a_net(self):
        net = net_of(5, (0, 1, 3), (3, 4, 1), (1, 0, 2), (4, 3, 0))
        self.assertEqual(ring_by(net, 0), ((0, 1), (2, 1)))
        self.assertEqual(ring_by(net, 1), ((1, 1), (3, 1)))

    def test_by_chance_the_words_hold(self):
        for net in itertools.chain(chance_nets(150), PLAIN_NETS, SMALL_NETS):
            taken = forest_of(net)
            for span in range(len(net[2])):
                if span in taken:
                    continue
                ring = ring_by(net, span)
                self.assertTrue(is_plain(ring))
                self.assertIs(is_ring(net, ring), True)
                self.assertIs(is_way(net, ring), True)
                self.assertEqual(ring[0], (span, 1))
                self.assertTrue(all(step[0] in taken for step in ring[1:]))


if __name__ == "__main__":
    unittest.main()
