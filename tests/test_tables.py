"""Tables, their waits and how they are moved: points 2, 6, 7 and 8."""

import unittest

from hourtable.tables import broken_in, fits, is_table, moved_by, rest_by, wait_of, waits_of
from tests.samples import (GREATEST, NO_NUMBERS, NO_TEXTS, PLAIN_NETS, SMALL_NETS, Odd, deep_tuple, is_plain,
                           knotted_list, tables_of)

NET = (60, 3, ((0, 1, 5, 9, 3), (1, 2, 0, 59, 0), (2, 0, 70, 70, 2)))


class IsTableTest(unittest.TestCase):
    def yes(self, net, thing):
        self.assertIs(is_table(net, thing), True)

    def no(self, net, thing):
        self.assertIs(is_table(net, thing), False)

    def test_ordinary(self):
        self.yes(NET, (0, 7, 50))
        self.yes(NET, (7, 7, 7))
        self.yes(NET, (59, 1, 30))

    def test_a_table_needn_t_fit(self):
        self.yes(NET, (0, 0, 0))
        self.assertFalse(fits(NET, (0, 0, 0)))

    def test_each_time_is_from_0_to_beat_less_1(self):
        for place in range(3):
            for time, answer in ((-GREATEST, False), (-60, False), (-1, False), (0, True), (1, True), (59, True),
                                 (60, False), (61, False), (GREATEST, False), (10 ** 10000, False)):
                times = [5, 5, 5]
                times[place] = time
                self.assertIs(is_table(NET, tuple(times)), answer, times)

    def test_a_time_too_few_or_too_many(self):
        for many in range(7):
            self.assertIs(is_table(NET, (0,) * many), many == 3)

    def test_one_happening_and_sixteen(self):
        self.yes((60, 1, ()), (0,))
        self.yes((60, 1, ()), (59,))
        self.no((60, 1, ()), ())
        self.no((60, 1, ()), (0, 0))
        self.no((60, 1, ()), 0)
        self.yes((60, 16, ()), tuple(range(16)))
        self.no((60, 16, ()), tuple(range(15)))
        self.no((60, 16, ()), tuple(range(17)))
        self.no((60, 16, ()), tuple(range(15)) + (60,))

    def test_a_beat_of_one(self):
        self.yes((1, 2, ()), (0, 0))
        self.no((1, 2, ()), (0, 1))
        self.no((1, 2, ()), (1, 0))
        self.no((1, 2, ()), (-1, 0))

    def test_a_beat_of_sixty_figures(self):
        self.yes((GREATEST, 2, ()), (0, GREATEST - 1))
        self.no((GREATEST, 2, ()), (0, GREATEST))
        self.no((GREATEST, 2, ()), (GREATEST, 0))

    def test_a_list_in_the_place_of_the_tuple(self):
        self.no(NET, [0, 7, 50])
        self.no((60, 1, ()), [0])

    def test_another_thing_in_the_place_of_a_time(self):
        for thing in NO_NUMBERS:
            for place in range(3):
                times = [0, 0, 0]
                times[place] = thing
                self.no(NET, tuple(times))
            self.no((60, 1, ()), (thing,))

    def test_of_anything(self):
        others = ("abc", {0: 0, 1: 0, 2: 0}, {0, 1, 2}, range(3), b"abc", NET, ((0, 7, 50),))
        for thing in NO_NUMBERS + NO_TEXTS + others + (Odd(), knotted_list(), deep_tuple()):
            self.no(NET, thing)
        for thing in (knotted_list(), deep_tuple()):
            self.no(NET, (0, thing, 0))


class RestTest(unittest.TestCase):
    def test_from_0_on(self):
        self.assertEqual([rest_by(3, number) for number in range(8)], [0, 1, 2, 0, 1, 2, 0, 1])

    def test_below_0(self):
        self.assertEqual([rest_by(3, -number) for number in range(8)], [0, 2, 1, 0, 2, 1, 0, 2])
        self.assertEqual(rest_by(60, -1), 59)
        self.assertEqual(rest_by(60, -59), 1)
        self.assertEqual(rest_by(60, -61), 59)

    def test_multiples_of_the_beat(self):
        for beat in (1, 2, 60, GREATEST):
            for many in (-GREATEST, -2, -1, 0, 1, 2, GREATEST):
                self.assertEqual(rest_by(beat, many * beat), 0)

    def test_by_one(self):
        for number in (-GREATEST, -7, -1, 0, 1, 7, GREATEST):
            self.assertEqual(rest_by(1, number), 0)

    def test_of_sixty_figures(self):
        self.assertEqual(rest_by(10, GREATEST), 9)
        self.assertEqual(rest_by(10, -GREATEST), 1)
        self.assertEqual(rest_by(GREATEST, GREATEST - 1), GREATEST - 1)
        self.assertEqual(rest_by(GREATEST, -1), GREATEST - 1)
        self.assertEqual(rest_by(GREATEST, GREATEST + 1), 1)

    def test_it_is_within_the_beat_and_some_beats_away(self):
        for beat in range(1, 8):
            for number in range(-30, 31):
                rest = rest_by(beat, number)
                self.assertIs(type(rest), int)
                self.assertIn(rest, range(beat))
                self.assertIn(number, range(rest - 30 * beat, rest + 31 * beat, beat))


class WaitsTest(unittest.TestCase):
    def told(self, net, table, waits, broken, wait):
        self.assertEqual(waits_of(net, table), waits)
        self.assertEqual(broken_in(net, table), broken)
        self.assertIs(fits(net, table), broken == ())
        self.assertEqual(wait_of(net, table), wait)
        for answer in (waits_of(net, table), broken_in(net, table), wait_of(net, table)):
            self.assertTrue(is_plain(answer))

    def test_no_spans(self):
        self.told((1, 1, ()), (0,), (), (), 0)
        self.told((60, 3, ()), (0, 17, 59), (), (), 0)

    def test_of_one_span(self):
        net = (10, 2, ((0, 1, 3, 5, 7),))
        self.told(net, (0, 3), (0,), (), 0)
        self.told(net, (0, 4), (1,), (), 7)
        self.told(net, (0, 5), (2,), (), 14)
        self.told(net, (0, 6), (3,), (0,), 21)
        self.told(net, (0, 2), (9,), (0,), 63)
        self.told(net, (8, 1), (0,), (), 0)
        self.told(net, (9, 4), (2,), (), 14)
        self.told(net, (8, 0), (9,), (0,), 63)

    def test_from_goal_to_start_is_another_span(self):
        net = (10, 2, ((1, 0, 3, 5, 7),))
        self.told(net, (3, 0), (0,), (), 0)
        self.told(net, (0, 3), (4,), (0,), 28)

    def test_the_widest_span_is_always_kept(self):
        net = (10, 2, ((0, 1, 3, 12, 1),))
        for time in range(10):
            self.told(net, (3, (time + 6) % 10), (time,), (), time)

    def test_a_span_of_one_length(self):
        net = (10, 2, ((0, 1, 3, 3, 1),))
        self.told(net, (0, 3), (0,), (), 0)
        self.told(net, (0, 4), (1,), (0,), 1)
        self.told(net, (0, 2), (9,), (0,), 9)

    def test_a_least_of_the_beat_and_above(self):
        for least in (10, 20, 1000000):
            net = (10, 2, ((0, 1, least, least + 2, 5),))
            self.told(net, (4, 4), (0,), (), 0)
            self.told(net, (4, 6), (2,), (), 10)
            self.told(net, (4, 7), (3,), (0,), 15)
            self.told(net, (4, 3), (9,), (0,), 45)
        self.told((10, 2, ((0, 1, 23, 25, 5),)), (0, 5), (2,), (), 10)

    def test_a_beat_of_one(self):
        self.told((1, 2, ((0, 1, 7, 7, 5), (1, 0, 0, 0, 1))), (0, 0), (0, 0), (), 0)

    def test_several_spans(self):
        self.told(NET, (0, 7, 50), (2, 43, 0), (), 6)
        self.told(NET, (0, 7, 51), (2, 44, 59), (2,), 6 + 118)
        self.told(NET, (0, 4, 51), (59, 47, 59), (0, 2), 177 + 118)
        self.told(NET, (0, 10, 50), (5, 40, 0), (0,), 15)

    def test_all_broken_are_told_rising(self):
        spans = tuple((k % 2, 1 - k % 2, 1, 1, 1) for k in range(40))
        self.told((10, 2, spans), (0, 0), (9,) * 40, tuple(range(40)), 360)

    def test_spans_alike_count_each(self):
        self.told((10, 2, ((0, 1, 3, 5, 7), (0, 1, 3, 5, 7))), (0, 5), (2, 2), (), 28)

    def test_weights(self):
        net = (10, 2, ((0, 1, 3, 3, 0), (0, 1, 1, 5, 10 ** 12), (1, 0, 5, 9, 1)))
        self.told(net, (0, 3), (0, 2, 2), (), 2 * 10 ** 12 + 2)
        self.told((10, 2, ((0, 1, 0, 0, 0),)), (0, 9), (9,), (0,), 0)
        self.told((10, 2, ((0, 1, 0, 0, 10 ** 12),)), (0, 9), (9,), (0,), 9 * 10 ** 12)

    def test_sixty_figures(self):
        net = (GREATEST, 2, ((0, 1, 0, GREATEST - 1, 10 ** 12), (1, 0, GREATEST, GREATEST, 3), (0, 1, 5, 5, 0)))
        self.told(net, (1, 0), (GREATEST - 1, 1, GREATEST - 6), (1, 2), 10 ** 12 * (GREATEST - 1) + 3)
        self.told(net, (0, 0), (0, 0, GREATEST - 5), (2,), 0)

    def test_a_kept_span_s_length_is_its_own(self):
        for net in SMALL_NETS:
            for table in tables_of(net):
                broken = broken_in(net, table)
                for number, (start, goal, least, most, weight) in enumerate(net[2]):
                    lengths = [length for length in range(least, least + net[0])
                               if (table[start] + length - table[goal]) % net[0] == 0]
                    self.assertEqual(waits_of(net, table)[number], lengths[0] - least)
                    self.assertEqual(number in broken, lengths[0] > most)


class MovedTest(unittest.TestCase):
    def test_by_numbers(self):
        for number, times in ((0, (0, 7, 50)), (1, (1, 8, 51)), (10, (10, 17, 0)), (60, (0, 7, 50)),
                              (-1, (59, 6, 49)), (-7, (53, 0, 43)), (-60, (0, 7, 50)), (-67, (53, 0, 43)),
                              (670, (10, 17, 0))):
            self.assertEqual(moved_by(NET, (0, 7, 50), number), times)

    def test_by_sixty_figures(self):
        self.assertEqual(moved_by(NET, (0, 7, 50), 10 ** 59 * 6), (0, 7, 50))
        self.assertEqual(moved_by(NET, (0, 7, 50), 10 ** 59 * 6 + 1), (1, 8, 51))
        self.assertEqual(moved_by(NET, (0, 7, 50), -(10 ** 59 * 6) - 1), (59, 6, 49))
        net = (GREATEST, 2, ())
        self.assertEqual(moved_by(net, (0, GREATEST - 1), GREATEST - 1), (GREATEST - 1, GREATEST - 2))
        self.assertEqual(moved_by(net, (0, GREATEST - 1), -GREATEST), (0, GREATEST - 1))

    def test_by_a_beat_of_one(self):
        self.assertEqual(moved_by((1, 2, ()), (0, 0), 5), (0, 0))

    def test_the_waits_stay(self):
        for net in SMALL_NETS:
            for table in tables_of(net)[::3]:
                for number in (0, 1, net[0], -2, GREATEST, -GREATEST):
                    moved = moved_by(net, table, number)
                    self.assertIs(is_table(net, moved), True)
                    self.assertTrue(is_plain(moved))
                    self.assertEqual(waits_of(net, moved), waits_of(net, table))
                    self.assertEqual(fits(net, moved), fits(net, table))
                    self.assertEqual(wait_of(net, moved), wait_of(net, table))

    def test_of_plain_nets(self):
        for net in PLAIN_NETS:
            table = tuple(k % net[0] for k in range(net[1]))
            self.assertEqual(moved_by(net, moved_by(net, table, 17), -17), table)


if __name__ == "__main__":
    unittest.main()
