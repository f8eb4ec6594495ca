"""Nets summed by a way: points 2, 3 and 22."""

import itertools
import random
import unittest

from hourtable.errors import NoWay, TooWide
from hourtable.finding import table_for
from hourtable.leasts import best_for
from hourtable.nets import is_net
from hourtable.rings import first_bounds, is_way, leads_from, leads_to, sum_of
from hourtable.sums import summed
from hourtable.tables import fits, wait_of
from tests.samples import (GREATEST, GREAT_BEAT, NO_NUMBERS, SMALL_NETS, Odd, deep_tuple, great_net, is_plain,
                           knotted_list, refused, small_nets_by_chance, tables_of, too_great)

# Happening 3 stands alone; the widths are 4, 7 and 0, and span 3 is a beat less 1 wide.
NET = (20, 5, ((0, 1, 5, 9, 3), (1, 2, 30, 37, 1), (4, 2, 2, 2, 8), (4, 0, 0, 19, 2)))


def ways_of(net, most):
    """All ways of a net of at most so many steps."""
    steps = list(itertools.product(range(len(net[2])), (1, -1)))
    ways = [(step,) for step in steps]
    longest = ways
    for _ in range(most - 1):
        longest = [way + (step,) for way in longest for step in steps
                   if leads_to(net, way[-1]) == leads_from(net, step)]
        ways = ways + longest
    return ways


class SummedTest(unittest.TestCase):
    def told(self, net, way, span):
        told = summed(net, way)
        self.assertEqual(told, (net[0], net[1], net[2] + (span,)))
        self.assertTrue(is_plain(told))
        self.assertIs(is_net(told), True)

    def test_one_step(self):
        self.told(NET, ((0, 1),), (0, 1, 5, 9, 0))
        self.told(NET, ((1, 1),), (1, 2, 10, 17, 0))
        self.told(NET, ((2, 1),), (4, 2, 2, 2, 0))

    def test_one_step_by_way_minus_1(self):
        self.told(NET, ((0, -1),), (1, 0, 11, 15, 0))
        self.told(NET, ((1, -1),), (2, 1, 3, 10, 0))
        self.told(NET, ((2, -1),), (2, 4, 18, 18, 0))

    def test_several_steps(self):
        self.told(NET, ((0, 1), (1, 1)), (0, 2, 15, 26, 0))
        self.told(NET, ((1, -1), (0, -1)), (2, 0, 14, 25, 0))
        self.told(NET, ((0, 1), (1, 1), (2, -1)), (0, 4, 13, 24, 0))
        self.told(NET, ((2, 1), (1, -1), (0, -1)), (4, 0, 16, 27, 0))

    def test_the_same_span_more_than_once(self):
        self.told(NET, ((0, 1), (0, -1), (0, 1)), (0, 1, 1, 13, 0))
        self.told(NET, ((2, 1), (2, -1)) * 9 + ((2, 1),), (4, 2, 2, 2, 0))
        self.told(NET, ((0, 1), (1, 1), (2, -1), (2, 1)), (0, 2, 15, 26, 0))
        self.told(NET, ((2, 1), (2, -1), (2, 1), (1, -1)), (4, 1, 5, 12, 0))

    def test_a_span_once_round(self):
        net = (20, 3, ((0, 1, 5, 7, 3), (1, 2, 4, 4, 1), (2, 0, 3, 4, 8)))
        self.told(net, ((0, 1), (1, 1), (2, 1), (0, 1)), (0, 1, 17, 22, 0))
        self.told(net, ((2, 1), (0, 1), (1, 1), (2, 1)), (2, 0, 15, 19, 0))

    def test_the_low_is_below_0(self):
        net = (10, 3, ((0, 1, 7, 9, 3), (1, 2, 31, 33, 1)))
        self.told(net, ((0, -1),), (1, 0, 1, 3, 0))
        self.told(net, ((1, -1),), (2, 1, 7, 9, 0))
        self.told(net, ((1, -1), (0, -1)), (2, 0, 8, 12, 0))

    def test_the_low_is_above_several_beats(self):
        net = (10, 3, ((0, 1, 37, 39, 3), (1, 2, 990, 993, 1)))
        self.told(net, ((0, 1),), (0, 1, 7, 9, 0))
        self.told(net, ((1, 1),), (1, 2, 0, 3, 0))
        self.told(net, ((0, 1), (1, 1)), (0, 2, 7, 12, 0))

    def test_the_low_is_just_a_whole_number_of_beats(self):
        net = (10, 2, ((0, 1, 10, 14, 3), (0, 1, 6, 10, 1), (0, 1, 9, 9, 1)))
        self.told(net, ((0, 1),), (0, 1, 0, 4, 0))
        self.told(net, ((1, -1),), (1, 0, 0, 4, 0))
        self.told(net, ((2, 1),), (0, 1, 9, 9, 0))
        self.told(net, ((2, -1),), (1, 0, 1, 1, 0))

    def test_a_beat_of_1(self):
        net = (1, 3, ((0, 1, 0, 0, 3), (1, 2, 8, 8, 1)))
        self.told(net, ((0, 1), (1, 1)), (0, 2, 0, 0, 0))
        self.told(net, ((1, -1),), (2, 1, 0, 0, 0))

    def test_numbers_of_many_figures(self):
        net = (GREAT_BEAT, 3, ((0, 1, GREATEST - 5, GREATEST, 3), (1, 2, 0, GREAT_BEAT - 6, 1)))
        self.told(net, ((0, 1),), (0, 1, GREAT_BEAT - 6, GREAT_BEAT - 1, 0))
        self.told(net, ((0, 1), (1, 1)), (0, 2, GREAT_BEAT - 6, 2 * GREAT_BEAT - 7, 0))
        self.told(net, ((1, -1), (0, -1)), (2, 0, 7, 6 + GREAT_BEAT, 0))

    def test_twice_summed(self):
        once = summed(NET, ((0, 1), (1, 1)))
        self.told(once, ((4, 1), (2, -1)), (0, 4, 13, 24, 0))
        self.told(once, ((4, -1),), (2, 0, 14, 25, 0))

    def test_a_beat_less_1_wide(self):
        self.told(NET, ((3, 1),), (4, 0, 0, 19, 0))
        self.told(NET, ((3, -1),), (0, 4, 1, 20, 0))
        self.told(NET, ((2, 1), (2, -1), (3, 1)), (4, 0, 0, 19, 0))
        self.told((20, 3, ((0, 1, 5, 17, 3), (2, 1, 1, 8, 1))), ((0, 1), (1, -1)), (0, 2, 17, 36, 0))


class NoWayTest(unittest.TestCase):
    def no_way(self, thing, net=NET):
        refused(self, NoWay, summed, net, thing)

    def test_ways_that_come_back(self):
        self.no_way(((0, 1), (0, -1)))
        self.no_way(((2, -1), (2, 1)))
        self.no_way(((0, 1), (1, 1), (2, -1), (3, 1)))
        self.no_way(((0, 1), (1, 1), (1, -1), (0, -1)))
        self.no_way(((0, 1), (1, 1)), (20, 2, ((0, 1, 5, 5, 1), (1, 0, 15, 15, 1))))

    def test_steps_that_don_t_lead_on(self):
        self.no_way(((0, 1), (0, 1)))
        self.no_way(((1, 1), (0, 1)))
        self.no_way(((0, 1), (2, 1)))
        self.no_way(((0, 1), (1, 1), (2, 1)))

    def test_spans_and_ways_that_there_are_not(self):
        for step in ((4, 1), (-1, 1), (GREATEST, 1), (0, 0), (0, 2), (0, -2), (0, GREATEST), (-4, -1)):
            self.no_way((step,))
            self.no_way(((0, 1), step))
            self.no_way((step, (1, 1)))
        self.no_way(((0, 1),), (20, 2, ()))

    def test_things_of_other_kinds(self):
        for thing in NO_NUMBERS + (0, 1, -1, GREATEST, (0, 1), ((0, 1, 1),), ((0,),), ((),), ("01",), ((0, 1), None),
                                   [(0, 1)], ([0, 1],), ({0: 1},), "((0, 1),)", {(0, 1)}, (((0, 1),),), range(2),
                                   Odd(), (Odd(),), ((Odd(), Odd()),), knotted_list(), (knotted_list(),),
                                   deep_tuple(), (deep_tuple(),), ((0, deep_tuple()),)):
            self.no_way(thing)

    def test_what_is_no_number_in_the_place_of_one(self):
        for thing in NO_NUMBERS:
            self.no_way(((thing, 1),))
            self.no_way(((0, thing),))
            self.no_way(((0, 1), (thing, 1)))
            self.no_way(((0, 1), (1, thing)))

    def test_lists_in_the_place_of_tuples(self):
        self.no_way([(0, 1), (1, 1)])
        self.no_way(((0, 1), [1, 1]))
        self.no_way([[0, 1], [1, 1]])


class TooWideTest(unittest.TestCase):
    def too_wide(self, net, way):
        self.assertIs(is_way(net, way), True)
        refused(self, TooWide, summed, net, way)

    def test_just_a_beat_and_more(self):
        for beat, wide in ((11, True), (12, True), (13, False), (14, False)):
            net = (beat, 3, ((0, 1, 5, 9, 3), (1, 2, 7, 15, 1)))
            for way in (((0, 1), (1, 1)), ((1, -1), (0, -1))):
                if wide:
                    self.too_wide(net, way)
                else:
                    self.assertEqual(summed(net, way)[2][2][3] - summed(net, way)[2][2][2], 12)

    def test_the_same_span_again_and_again(self):
        there_and_back = ((0, 1), (0, -1))
        self.assertEqual(len(summed(NET, there_and_back + ((0, 1),))[2]), 5)
        self.too_wide(NET, there_and_back * 2 + ((0, 1),))
        self.too_wide(NET, there_and_back * 500 + ((0, 1),))

    def test_much_wider(self):
        net = (GREATEST, 16, tuple((k, k + 1, 0, GREATEST - 1, 1) for k in range(15)))
        self.too_wide(net, tuple((k, 1) for k in range(15)))
        self.too_wide(net, ((1, -1), (0, -1)))

    def test_a_beat_of_1_is_never_too_narrow_for_a_way(self):
        net = (1, 2, ((0, 1, 3, 3, 1),))
        self.assertEqual(summed(net, ((0, 1),) + ((0, -1), (0, 1)) * 20), (1, 2, net[2] + ((0, 1, 0, 0, 0),)))


class SpansTest(unittest.TestCase):
    def test_forty_and_forty_one(self):
        spans = tuple((k % 3, (k + 1) % 3, k, k + 1, k) for k in range(40))
        for many in (1, 38, 39):
            told = summed((60, 3, spans[:many]), ((0, 1),))
            self.assertEqual(told, (60, 3, spans[:many] + ((0, 1, 0, 1, 0),)))
        too_great(self, 41, 40, summed, (60, 3, spans), ((0, 1),))
        too_great(self, 41, 40, summed, (60, 3, spans), ((39, -1), (38, -1)))

    def test_summed_until_there_are_too_many(self):
        net = (20, 2, ((0, 1, 5, 9, 3),))
        for many in range(1, 40):
            net = summed(net, ((many - 1, -1),))
            self.assertEqual(len(net[2]), many + 1)
            self.assertIs(is_net(net), True)
        too_great(self, 41, 40, summed, net, ((39, -1),))


class SeveralRefusalsTest(unittest.TestCase):
    full = (20, 3, ((0, 1, 5, 15, 3), (1, 2, 7, 17, 1)) * 20)

    def test_no_way_goes_first(self):
        for thing in ((), ((40, 1),), ((0, 1), (0, 1)), None, [(0, 1)], ((0, True),)):
            refused(self, NoWay, summed, self.full, thing)
        # Back to its begin, and twenty wide.
        refused(self, NoWay, summed, self.full, ((0, 1), (0, -1)))
        refused(self, NoWay, summed, NET, ((3, 1), (3, -1)))
        refused(self, NoWay, summed, NET, ((3, 1), (3, -1)) * 5)

    def test_too_wide_goes_ahead_of_too_great(self):
        refused(self, TooWide, summed, self.full, ((0, 1), (1, 1)))
        refused(self, TooWide, summed, self.full, ((0, 1), (0, -1), (0, 1)))
        too_great(self, 41, 40, summed, self.full, ((0, 1),))


class SameTablesTest(unittest.TestCase):
    def same(self, net, way):
        """Hold that a way's sum is refused just as told, or changes nothing; tell whether it was summed."""
        low, high = sum_of(first_bounds(net), way)
        if leads_from(net, way[0]) == leads_to(net, way[-1]):
            refused(self, NoWay, summed, net, way)
            return False
        if high - low >= net[0]:
            refused(self, TooWide, summed, net, way)
            return False
        told = summed(net, way)
        self.assertIs(is_net(told), True)
        for table in tables_of(net):
            self.assertIs(fits(told, table), fits(net, table))
            self.assertEqual(wait_of(told, table), wait_of(net, table))
        return True

    def test_all_ways_of_few_steps(self):
        many = 0
        for net in SMALL_NETS:
            for way in ways_of(net, 3 if len(net[2]) < 4 else 2):
                many += self.same(net, way)
        self.assertGreater(many, 150)

    def test_longer_ways_by_chance(self):
        chance = random.Random(22)
        many = 0
        for net in [net for net in SMALL_NETS if 0 < len(net[2]) < 5 and net[0] ** net[1] <= 350]:
            ways = ways_of(net, 4)
            for way in chance.sample(ways, min(len(ways), 100)):
                many += self.same(net, way)
        self.assertGreater(many, 100)

    def test_what_is_found_is_the_same(self):
        chance = random.Random(322)
        for net in small_nets_by_chance(422, 12):
            ways = [way for way in ways_of(net, 2) if leads_from(net, way[0]) != leads_to(net, way[-1])]
            for way in chance.sample(ways, min(len(ways), 3)):
                low, high = sum_of(first_bounds(net), way)
                if high - low < net[0]:
                    told = summed(net, way)
                    self.assertEqual(table_for(told)[0], table_for(net)[0])
                    if table_for(net)[0] == "table":
                        self.assertEqual(best_for(told)[2], best_for(net)[2])

    def test_great_nets(self):
        chance = random.Random(522)
        for beat in (60, 5000, GREAT_BEAT):
            net, table = great_net(chance, beat, 12, 20, cases=500)
            wait = best_for(net)[2]
            ways = [way for way in ways_of(net, 2) if leads_from(net, way[0]) != leads_to(net, way[-1])]
            for way in chance.sample(ways, 12):
                low, high = sum_of(first_bounds(net), way)
                if high - low < beat:
                    told = summed(net, way)
                    self.assertIs(fits(told, table), True)
                    self.assertEqual(best_for(told)[2], wait)


if __name__ == "__main__":
    unittest.main()
