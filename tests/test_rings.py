"""Ways, rings, bounds, sums and beats: points 2, 9, 10 and 11."""

import itertools
import unittest

from hourtable.rings import beats_of, ends_of, first_bounds, is_ring, is_way, sum_of
from hourtable.tables import fits, waits_of
from tests.samples import (GREATEST, NO_NUMBERS, NO_TEXTS, PLAIN_NETS, SMALL_NETS, Odd, deep_tuple, is_plain,
                           knotted_list, tables_of)

# Spans 0 and 1 go from 0 to 1, span 2 from 1 to 2, span 3 from 0 to 2, span 4 from 3 to 4.
NET = (60, 5, ((0, 1, 5, 9, 3), (0, 1, 20, 40, 0), (1, 2, 0, 59, 1), (0, 2, 70, 71, 2), (3, 4, 1, 1, 1)))

# Two rings that meet at happening 0.
EIGHT = (60, 3, ((0, 1, 1, 2, 0), (1, 0, 3, 5, 0), (0, 2, 7, 11, 0), (2, 0, 13, 20, 0)))


def steps_of(net):
    return [(span, way) for span in range(len(net[2])) for way in (1, -1)]


def rings_of(net, most):
    """All rings of a small net with at most so many steps, told by the words of point 9 alone."""
    rings = []
    for many in range(2, most + 1):
        for steps in itertools.product(steps_of(net), repeat=many):
            here = begin = net[2][steps[0][0]][0 if steps[0][1] == 1 else 1]
            for span, way in steps:
                ends = net[2][span][:2][::way]
                here = ends[1] if here == ends[0] else None
            if here == begin and len({span for span, way in steps}) == many:
                rings.append(steps)
    return rings


class WaysTest(unittest.TestCase):
    def told(self, net, thing, way, ring):
        self.assertIs(is_way(net, thing), way, thing)
        self.assertIs(is_ring(net, thing), ring, thing)


class OrdinaryTest(WaysTest):
    def test_one_step(self):
        for step in steps_of(NET):
            self.told(NET, (step,), True, False)

    def test_several_steps(self):
        self.told(NET, ((0, 1), (2, 1)), True, False)
        self.told(NET, ((2, -1), (0, -1)), True, False)
        self.told(NET, ((3, 1), (2, -1)), True, False)
        self.told(NET, ((2, 1), (3, -1), (0, 1)), True, True)

    def test_what_leads_nowhere_on(self):
        self.told(NET, ((0, 1), (2, -1)), False, False)
        self.told(NET, ((0, 1), (1, 1)), False, False)
        self.told(NET, ((2, 1), (0, 1)), False, False)
        self.told(NET, ((0, 1), (0, 1)), False, False)
        self.told(NET, ((0, 1), (4, 1)), False, False)
        self.told(NET, ((4, 1), (3, 1)), False, False)
        self.told(NET, ((0, 1), (2, 1), (3, 1)), False, False)
        self.told(NET, ((0, 1), (1, 1), (2, 1)), False, False)

    def test_a_span_twice(self):
        self.told(NET, ((0, 1), (0, -1)), True, False)
        self.told(NET, ((0, -1), (0, 1)), True, False)
        self.told(NET, ((0, 1), (0, -1), (0, 1)), True, False)
        self.told(NET, ((0, 1), (2, 1), (2, -1), (1, -1)), True, False)
        self.told(NET, ((0, 1), (2, 1), (3, -1), (0, 1)), True, False)
        self.told(NET, ((0, 1), (1, -1)) * 2, True, False)

    def test_rings_of_two_steps(self):
        self.told(NET, ((0, 1), (1, -1)), True, True)
        self.told(NET, ((1, 1), (0, -1)), True, True)
        self.told(NET, ((0, -1), (1, 1)), True, True)
        there_and_back = (60, 2, ((0, 1, 5, 9, 3), (1, 0, 5, 9, 3)))
        self.told(there_and_back, ((0, 1), (1, 1)), True, True)
        self.told(there_and_back, ((1, -1), (0, -1)), True, True)
        self.told(there_and_back, ((0, 1), (1, -1)), False, False)

    def test_rings_of_more(self):
        self.told(NET, ((0, 1), (2, 1), (3, -1)), True, True)
        self.told(NET, ((3, 1), (2, -1), (1, -1)), True, True)
        self.told(NET, ((0, 1), (2, 1), (3, 1)), False, False)

    def test_what_doesn_t_come_back(self):
        self.told(NET, ((0, 1), (1, -1), (3, 1)), True, False)
        self.told(NET, ((0, 1), (2, 1)), True, False)

    def test_a_happening_may_be_in_a_ring_twice(self):
        self.told(EIGHT, ((0, 1), (1, 1), (2, 1), (3, 1)), True, True)
        self.told(EIGHT, ((1, 1), (2, 1), (3, 1), (0, 1)), True, True)
        self.told(EIGHT, ((0, 1), (1, 1), (2, 1)), True, False)

    def test_sixteen_and_forty_steps(self):
        spans = tuple((k % 16, (k + 1) % 16, 0, 0, 0) for k in range(16))
        ring = tuple((k, 1) for k in range(16))
        self.told((60, 16, spans), ring, True, True)
        self.told((60, 16, spans), tuple((k, -1) for k in reversed(range(16))), True, True)
        self.told((60, 16, spans), ring[:15], True, False)
        self.told((60, 16, spans), ring * 2, True, False)
        spans = tuple((k % 2, 1 - k % 2, 0, 0, 0) for k in range(40))
        ring = tuple((k, 1) for k in range(40))
        self.told((60, 2, spans), ring, True, True)
        self.told((60, 2, spans), ring[:39], True, False)
        self.told((60, 2, spans), ring + ((38, 1), (39, 1)), True, False)

    def test_long_ways(self):
        self.told(NET, ((0, 1), (0, -1)) * 10000, True, False)
        self.told(NET, ((0, 1), (0, -1)) * 10000 + ((2, 1),), False, False)

    def test_all_that_small_nets_have(self):
        for net in (NET[:2] + (NET[2][:4],), EIGHT):
            rings = set(rings_of(net, 4))
            self.assertTrue(rings)
            for many in range(1, 5):
                for steps in itertools.product(steps_of(net), repeat=many):
                    self.assertIs(is_ring(net, steps), steps in rings, steps)

    def test_a_net_without_spans_has_none(self):
        for thing in ((), ((0, 1),), ((0, 1), (0, -1)), ((-1, 1),)):
            self.told((60, 3, ()), thing, False, False)


class WrongInputsTest(WaysTest):
    def no(self, thing):
        self.told(NET, thing, False, False)

    def no_step(self, step):
        self.no((step,))
        self.no((step, (1, -1)))
        self.no(((0, 1), step))
        self.no(((0, 1), step, (3, -1)))

    def test_the_empty_tuple(self):
        self.no(())

    def test_lists(self):
        self.no([(0, 1), (1, -1)])
        self.no([])
        self.no_step([0, 1])
        self.no_step([1, -1])

    def test_a_part_too_few_or_too_many(self):
        for step in ((), (0,), (1,), (0, 1, 0), (0, 1, 1), (1, -1, None)):
            self.no_step(step)

    def test_way(self):
        for way in (0, 2, -2, 60, GREATEST, -GREATEST) + NO_NUMBERS:
            self.no_step((0, way))
            self.no_step((1, way))

    def test_number_of_a_span(self):
        for span in (-1, -5, 5, 6, GREATEST, -GREATEST, 10 ** 10000) + NO_NUMBERS:
            self.no_step((span, 1))
            self.no_step((span, -1))

    def test_a_truth_is_no_number(self):
        # As numbers these would be right.
        self.no(((0, True),))
        self.no(((False, 1),))
        self.no(((True, 1),))
        self.no(((0, 1), (True, -1)))
        self.no(((False, 1), (1, -1)))
        self.no(((0, True), (1, -1)))

    def test_a_step_alone_is_no_way(self):
        self.no((0, 1))
        self.no((1, -1))

    def test_of_anything(self):
        for thing in NO_NUMBERS + NO_TEXTS + (Odd(), knotted_list(), deep_tuple(), NET, 5, "01", ("01",), range(2)):
            self.no(thing)
            if type(thing) is not tuple or thing == () or thing == (1,):
                self.no_step(thing)
        self.no_step(deep_tuple())
        self.no_step((0, deep_tuple()))
        self.no_step((deep_tuple(), 1))


class EndsTest(unittest.TestCase):
    def test_by_both_ways(self):
        self.assertEqual(ends_of(NET, ((0, 1),)), (0, 1))
        self.assertEqual(ends_of(NET, ((0, -1),)), (1, 0))
        self.assertEqual(ends_of(NET, ((4, -1),)), (4, 3))

    def test_of_several_steps(self):
        self.assertEqual(ends_of(NET, ((0, 1), (2, 1))), (0, 2))
        self.assertEqual(ends_of(NET, ((2, -1), (1, -1))), (2, 0))
        self.assertEqual(ends_of(NET, ((3, 1), (2, -1))), (0, 1))
        self.assertEqual(ends_of(NET, ((2, 1), (3, -1))), (1, 0))

    def test_there_and_back(self):
        self.assertEqual(ends_of(NET, ((0, 1), (0, -1))), (0, 0))
        self.assertEqual(ends_of(NET, ((2, -1), (2, 1), (3, -1))), (2, 0))

    def test_of_rings(self):
        self.assertEqual(ends_of(NET, ((0, 1), (2, 1), (3, -1))), (0, 0))
        self.assertEqual(ends_of(NET, ((3, -1), (0, 1), (2, 1))), (2, 2))


class FirstBoundsTest(unittest.TestCase):
    def test_no_spans(self):
        self.assertEqual(first_bounds((60, 3, ())), ())

    def test_least_and_most_in_the_order_of_spans(self):
        self.assertEqual(first_bounds(NET), ((5, 9), (20, 40), (0, 59), (70, 71), (1, 1)))

    def test_of_plain_nets(self):
        for net in PLAIN_NETS:
            bounds = first_bounds(net)
            self.assertTrue(is_plain(bounds))
            self.assertEqual(bounds, tuple(span[2:4] for span in net[2]))


class SumTest(unittest.TestCase):
    def test_by_both_ways(self):
        bounds = first_bounds(NET)
        self.assertEqual(sum_of(bounds, ((0, 1),)), (5, 9))
        self.assertEqual(sum_of(bounds, ((0, -1),)), (-9, -5))
        self.assertEqual(sum_of(bounds, ((4, 1),)), (1, 1))
        self.assertEqual(sum_of(bounds, ((4, -1),)), (-1, -1))

    def test_of_several_steps(self):
        bounds = first_bounds(NET)
        self.assertEqual(sum_of(bounds, ((0, 1), (2, 1))), (5, 68))
        self.assertEqual(sum_of(bounds, ((0, 1), (2, 1), (3, -1))), (-66, -2))
        self.assertEqual(sum_of(bounds, ((3, 1), (2, -1), (0, -1))), (2, 66))
        self.assertEqual(sum_of(bounds, ((0, 1), (1, -1))), (-35, -11))

    def test_there_and_back_leaves_the_width_open(self):
        bounds = first_bounds(NET)
        self.assertEqual(sum_of(bounds, ((0, 1), (0, -1))), (-4, 4))
        self.assertEqual(sum_of(bounds, ((0, 1), (0, -1), (0, 1))), (1, 13))

    def test_by_narrower_bounds(self):
        bounds = ((6, 7), (25, 25), (0, 10), (71, 71), (1, 1))
        self.assertEqual(sum_of(bounds, ((0, 1), (2, 1), (3, -1))), (-65, -54))
        self.assertEqual(sum_of(bounds, ((1, -1), (0, 1))), (-19, -18))

    def test_great_numbers(self):
        bounds = ((0, GREATEST - 1), (GREATEST, GREATEST))
        self.assertEqual(sum_of(bounds, ((0, 1), (1, 1))), (GREATEST, 2 * GREATEST - 1))
        self.assertEqual(sum_of(bounds, ((1, -1), (0, -1))), (-2 * GREATEST + 1, -GREATEST))
        bounds = ((GREATEST, GREATEST),) * 40
        self.assertEqual(sum_of(bounds, tuple((k, -1) for k in range(40))), (-40 * GREATEST, -40 * GREATEST))

    def test_it_is_plain(self):
        self.assertTrue(is_plain(sum_of(first_bounds(NET), ((0, 1), (2, 1), (3, -1)))))


class BeatsTest(unittest.TestCase):
    def beats(self, beat, one, other, way=1):
        """The beats of a ring of two spans, there and back, by these bounds."""
        net = (beat, 2, ((0, 1, 0, beat - 1, 0), (1, 0, 0, beat - 1, 0)))
        ring = ((0, 1), (1, 1)) if way == 1 else ((1, -1), (0, -1))
        return beats_of(net, (one, other), ring)

    def test_sure(self):
        self.assertEqual(self.beats(10, (3, 3), (7, 7)), (1, 1))
        self.assertEqual(self.beats(10, (0, 3), (7, 9)), (1, 1))
        self.assertEqual(self.beats(10, (0, 3), (0, 6)), (0, 0))
        self.assertEqual(self.beats(1, (0, 0), (0, 0)), (0, 0))
        self.assertEqual(self.beats(10, (1, 2), (8, 8)), (1, 1))
        self.assertEqual(self.beats(10, (1, 2), (9, 9)), (1, 1))

    def test_dead(self):
        self.assertEqual(self.beats(10, (1, 2), (3, 4)), (1, 0))
        self.assertEqual(self.beats(10, (1, 2), (3, 7)), (1, 0))
        self.assertEqual(self.beats(10, (5, 9), (6, 9)), (2, 1))
        self.assertEqual(self.beats(10, (2, 4), (9, 9)), (2, 1))

    def test_more_than_one(self):
        self.assertEqual(self.beats(10, (0, 9), (0, 9)), (0, 1))
        self.assertEqual(self.beats(10, (0, 3), (0, 7)), (0, 1))
        self.assertEqual(self.beats(4, (0, 3), (5, 13)), (2, 4))

    def test_the_other_way_round(self):
        self.assertEqual(self.beats(10, (3, 3), (7, 7), -1), (-1, -1))
        self.assertEqual(self.beats(10, (0, 9), (0, 9), -1), (-1, 0))
        self.assertEqual(self.beats(10, (1, 2), (3, 7), -1), (0, -1))

    def test_the_first_bounds_of_a_net(self):
        self.assertEqual(beats_of(NET, first_bounds(NET), ((0, 1), (2, 1), (3, -1))), (-1, -1))
        self.assertEqual(beats_of(NET, first_bounds(NET), ((3, 1), (2, -1), (0, -1))), (1, 1))
        self.assertEqual(beats_of(NET, first_bounds(NET), ((1, 1), (0, -1))), (1, 0))
        self.assertEqual(beats_of(EIGHT, first_bounds(EIGHT), ((0, 1), (1, 1), (2, 1), (3, 1))), (1, 0))

    def test_narrower_bounds(self):
        net = (10, 2, ((0, 1, 0, 9, 0), (1, 0, 0, 9, 0)))
        ring = ((0, 1), (1, 1))
        self.assertEqual(beats_of(net, first_bounds(net), ring), (0, 1))
        self.assertEqual(beats_of(net, ((1, 9), (0, 9)), ring), (1, 1))
        self.assertEqual(beats_of(net, ((1, 9), (0, 0)), ring), (1, 0))

    def test_leasts_above_the_beat(self):
        net = (10, 2, ((0, 1, 100, 105, 0), (1, 0, 38, 45, 0)))
        self.assertEqual(beats_of(net, first_bounds(net), ((0, 1), (1, 1))), (14, 15))
        self.assertEqual(beats_of(net, first_bounds(net), ((1, -1), (0, -1))), (-15, -14))

    def test_great_numbers(self):
        net = (GREATEST, 2, ((0, 1, 0, GREATEST - 1, 0), (1, 0, 1, GREATEST, 0)))
        self.assertEqual(beats_of(net, first_bounds(net), ((0, 1), (1, 1))), (1, 1))
        net = (1, 2, ((0, 1, GREATEST, GREATEST, 0), (1, 0, 0, 0, 0)))
        self.assertEqual(beats_of(net, first_bounds(net), ((0, 1), (1, 1))), (GREATEST, GREATEST))
        net = (3, 2, ((0, 1, GREATEST - 1, GREATEST, 0), (1, 0, GREATEST, GREATEST, 0)))
        self.assertEqual(beats_of(net, first_bounds(net), ((0, 1), (1, 1))), (2 * GREATEST // 3, 2 * GREATEST // 3))

    def test_against_all_numbers_gone_through(self):
        for beat in (1, 2, 5):
            for one, other in itertools.product(itertools.combinations_with_replacement(range(7), 2), repeat=2):
                net = (beat, 2, ((0, 1, 0, 0, 0), (0, 1, 0, 0, 0)))
                low, high = one[0] - other[1], one[1] - other[0]
                found = [many for many in range(-20, 21) if low <= many * beat <= high]
                first, last = beats_of(net, (one, other), ((0, 1), (1, -1)))
                self.assertEqual(list(range(first, last + 1)), found)
                self.assertEqual(first > last, not found)


class TablesOfRingsTest(unittest.TestCase):
    def test_a_fitting_table_s_lengths_come_to_beats_from_first_to_last(self):
        for net in SMALL_NETS:
            rings = rings_of(net, min(len(net[2]), 4))
            bounds = first_bounds(net)
            for table in tables_of(net):
                if not fits(net, table):
                    continue
                lengths = [span[2] + wait for span, wait in zip(net[2], waits_of(net, table))]
                for ring in rings:
                    whole = sum(lengths[span] * way for span, way in ring)
                    first, last = beats_of(net, bounds, ring)
                    self.assertEqual(whole % net[0], 0)
                    self.assertTrue(first <= whole // net[0] <= last)

    def test_where_a_ring_is_dead_no_table_fits(self):
        dead = 0
        for net in SMALL_NETS:
            bounds = first_bounds(net)
            beats = [beats_of(net, bounds, ring) for ring in rings_of(net, min(len(net[2]), 4))]
            if any(first > last for first, last in beats):
                dead += 1
                self.assertFalse(any(fits(net, table) for table in tables_of(net)))
        self.assertGreater(dead, 1)


if __name__ == "__main__":
    unittest.main()
