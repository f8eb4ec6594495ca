"""The whole program: its interface, and ways through all of it: points 2, 3 and 24."""

import importlib
import inspect
import random
import unittest

from hourtable.changes import fewest_moved, pinned, staying
from hourtable.errors import NoPlan, NoText
from hourtable.finding import table_for
from hourtable.forests import cases_of, forest_of, ring_by
from hourtable.hours import hours_of, timetable
from hourtable.leasts import best_for
from hourtable.moves import (mirrored, named_anew, side_by_side, stretched, table_mirrored, table_named_anew,
                             table_stretched)
from hourtable.nets import is_net, width_of
from hourtable.nettexts import read_net, show_net
from hourtable.plans import net_by
from hourtable.rings import beats_of, ends_of, first_bounds, is_ring, is_way, sum_of
from hourtable.sums import summed
from hourtable.tables import broken_in, fits, is_table, moved_by, rest_by, wait_of, waits_of
from hourtable.trees import is_right, is_tree, leaves_of, shown_by, worth_of
from tests.planned import plan_by_chance
from tests.samples import GREAT_BEAT, SMALL_NETS, great_net, is_plain, is_told_tree, refused, small_nets_by_chance

INTERFACE = {
    "nets": ("is_net(thing)", "width_of(net, span)"),
    "nettexts": ("show_net(net)", "read_net(text)"),
    "tables": ("is_table(net, thing)", "rest_by(beat, number)", "waits_of(net, table)", "broken_in(net, table)",
               "fits(net, table)", "wait_of(net, table)", "moved_by(net, table, number)"),
    "rings": ("is_way(net, thing)", "is_ring(net, thing)", "ends_of(net, way)", "first_bounds(net)",
              "sum_of(bounds, way)", "beats_of(net, bounds, ring)"),
    "forests": ("forest_of(net)", "ring_by(net, span)", "cases_of(net)"),
    "trees": ("is_tree(net, thing)", "leaves_of(net, tree)", "is_right(net, bounds, leaf)",
              "worth_of(net, bounds, leaf)", "shown_by(net, thing)"),
    "finding": ("table_for(net)",),
    "leasts": ("best_for(net)",),
    "changes": ("pinned(net, table, some)", "staying(net, table)", "fewest_moved(net, table)"),
    "sums": ("summed(net, way)",),
    "moves": ("mirrored(net)", "stretched(net, number)", "named_anew(net, order)", "side_by_side(one, other)",
              "table_mirrored(net, table)", "table_stretched(table, number)", "table_named_anew(net, table, order)"),
    "plans": ("net_by(text)",),
    "hours": ("hours_of(text, table)", "timetable(text)"),
}

NET_TEXT = "beat 60 happenings 3\n0 1 10 18 3\n1 2 10 16 1\n2 0 30 45 2"
PLAN_TEXT = ("beat 60\nline east west 12 mid 20 far\nline back far 21 mid 13 west\nstay east mid 2 6 5\n"
             "stay back mid 1 9 4\nchange east back mid 4 19 3\nchange back east mid 4 19 3\napart east back mid 3\n"
             "meet east back mid far 1")


class InterfaceTest(unittest.TestCase):
    def test_names_and_arguments(self):
        for module, functions in INTERFACE.items():
            there = importlib.import_module(f"hourtable.{module}")
            for function in functions:
                name = function.partition("(")[0]
                self.assertEqual(name + str(inspect.signature(getattr(there, name))), function)


def asked_of_all(net, table, way):
    """What each function of nets and tables tells of a net, a table that fits, and a way with unlike ends."""
    bounds = first_bounds(net)
    order = tuple(reversed(range(net[1])))
    best = best_for(net)
    leaves = leaves_of(net, best[3])
    prices = [(there, leaf) for there, leaf in leaves if leaf[0] == "price"]
    rings = [ring_by(net, span) for span in range(len(net[2])) if span not in forest_of(net)]
    return [is_net(net), show_net(net), read_net(show_net(net)), is_table(net, table), rest_by(net[0], -7),
            waits_of(net, table), broken_in(net, table), fits(net, table), wait_of(net, table),
            moved_by(net, table, -7), is_way(net, way), is_ring(net, way), ends_of(net, way), bounds,
            sum_of(bounds, way), forest_of(net), cases_of(net), best, leaves, is_tree(net, best[3]),
            shown_by(net, best[3]), shown_by(net, way), table_for(net), pinned(net, table, order[::-1]),
            staying(net, table), fewest_moved(net, table), summed(net, way), mirrored(net), stretched(net, 7),
            named_anew(net, order), side_by_side(net, net), table_mirrored(net, table), table_stretched(table, 7),
            table_named_anew(net, table, order), width_of(net, 0)] + [
            beats_of(net, bounds, ring) for ring in rings] + [
            is_right(net, *place) for place in leaves] + [worth_of(net, *place) for place in prices]


class KindTest(unittest.TestCase):
    def test_all_that_is_told_is_plain(self):
        for net in (read_net(NET_TEXT), (7, 3, ((0, 1, 1, 3, 4), (2, 1, 2, 4, 3), (0, 2, 0, 6, 5))),
                    (1, 2, ((0, 1, 5, 5, 1),))):
            table = table_for(net)[1]
            for told in asked_of_all(net, table, ((0, 1),)):
                self.assertTrue(is_plain(told), told)
        for told in (net_by(PLAN_TEXT), timetable(PLAN_TEXT), hours_of(PLAN_TEXT, (0,) * 8)):
            self.assertTrue(is_plain(told), told)

    def test_truths_told_are_truths(self):
        net = read_net(NET_TEXT)
        for thing in (net, (0, 10, 20), ((0, 1),), ((0, 1), (1, 1), (2, 1)), ("price", ()), None, True):
            for told in (is_net(thing), is_table(net, thing), is_way(net, thing), is_ring(net, thing),
                         is_tree(net, thing)):
                self.assertIs(type(told), bool)

    def test_truths_handed_in_are_no_whole_numbers(self):
        net = read_net(NET_TEXT)
        self.assertIs(is_net((60, True, ())), False)
        self.assertIs(is_net((True, 1, ())), False)
        self.assertIs(is_table(net, (0, True, False)), False)
        self.assertIs(is_way(net, ((0, True),)), False)
        self.assertIs(is_ring(net, ((0, 1), (True, 1), (2, 1))), False)
        self.assertIs(is_tree(net, ("cut", 0, True, ("price", ()), ("price", ()))), False)
        self.assertIs(is_tree(net, ("price", ((True, ((0, 1), (1, 1), (2, 1))),))), False)
        self.assertIsNone(shown_by(net, ("price", ((False, ((0, 1), (1, 1), (2, 1))),))))


class NetWayTest(unittest.TestCase):
    def least(self, net):
        """The table that waits least, its wait, and that its tree shows so; None where no table fits."""
        self.assertIs(is_net(net), True)
        told = best_for(net)
        self.assertTrue(is_told_tree(net, told[-1]))
        if told[0] == "none":
            self.assertEqual(shown_by(net, told[1]), ("none",))
            return None
        self.assertIs(fits(net, told[1]), True)
        self.assertEqual(wait_of(net, told[1]), told[2])
        self.assertEqual(shown_by(net, told[3]), ("wait", told[2]))
        return told[1:3]

    def held(self, net, table, wait, times=1):
        """Hold that a net's text is read again, that this table fits it and waits so, and that none waits less."""
        self.assertEqual(read_net(show_net(net)), net)
        self.assertIs(is_table(net, table), True)
        self.assertIs(fits(net, table), True)
        self.assertEqual(wait_of(net, table), wait * times)
        self.assertEqual(self.least(net)[1], wait * times)

    def gone_through(self, net, order, number):
        """Go from a net through all others of it; tell whether a table fits it."""
        others = (mirrored(net), named_anew(net, order), stretched(net, number), side_by_side(net, mirrored(net)))
        least = self.least(net)
        if least is None:
            for other in others:
                self.assertEqual(read_net(show_net(other)), other)
                self.assertIsNone(self.least(other))
            return False
        table, wait = least
        back = table_mirrored(net, table)
        self.held(others[0], back, wait)
        self.held(others[1], table_named_anew(net, table, order), wait)
        self.held(others[2], table_stretched(table, number), wait, number)
        self.held(others[3], table + back, wait, 2)
        self.held(net, moved_by(net, table, -table[-1]), wait)
        return True

    def test_from_a_text_and_back(self):
        net = read_net(NET_TEXT)
        table, wait = self.least(net)
        self.assertEqual(wait, 14)
        other = stretched(named_anew(mirrored(net), (2, 0, 1)), 10)
        text = "beat 600 happenings 3\n2 1 100 180 3\n0 2 100 160 1\n1 0 300 450 2"
        self.assertEqual(show_net(other), text)
        self.assertEqual(read_net(text), other)
        there = table_stretched(table_named_anew(net, table_mirrored(net, table), (2, 0, 1)), 10)
        self.assertIs(fits(other, there), True)
        self.assertEqual(wait_of(other, there), 140)
        back = mirrored(named_anew(read_net(text), (1, 2, 0)))
        self.assertEqual(back, stretched(net, 10))
        both = side_by_side(net, mirrored(net))
        self.assertEqual(show_net(both), NET_TEXT.replace("happenings 3", "happenings 6")
                         + "\n4 3 10 18 3\n5 4 10 16 1\n3 5 30 45 2")
        self.assertEqual(self.least(both)[1], 28)

    def test_small_nets(self):
        chance = random.Random(3)
        told = []
        for net in SMALL_NETS + tuple(small_nets_by_chance(24, 8)):
            if cases_of(net) ** 2 <= 4096:
                order = tuple(chance.sample(range(net[1]), net[1]))
                told.append(self.gone_through(net, order, chance.choice((1, 2))))
        self.assertGreater(min(told.count(True), told.count(False)), 5)

    def test_great_nets(self):
        chance = random.Random(324)
        for beat in (60, 5000):
            for pulled in (False, True):
                net = great_net(chance, beat, 8, 16, pulled=pulled, cases=60)[0]
                self.gone_through(net, tuple(chance.sample(range(8), 8)), 1)
        for beat in (60, GREAT_BEAT):
            net, table = great_net(chance, beat, 16, 38)
            way = ((forest_of(net)[0], -1),)
            more = summed(net, way)
            self.assertEqual(self.least(more)[1], self.least(net)[1])
            held = pinned(more, table, (3, 9))
            self.assertIs(fits(held, table), True)
            self.assertEqual(len(held[2]), 40)
            self.assertEqual(staying(held, table), ("stay", tuple(range(16)), table))

    def test_a_sum_of_a_mirrored_way_is_the_sum_mirrored(self):
        net = read_net(NET_TEXT)
        for way in (((0, 1),), ((0, 1), (1, 1)), ((2, -1),), ((0, -1), (2, -1)), ((1, -1), (0, -1))):
            self.assertEqual(mirrored(summed(net, way)), summed(mirrored(net), way[::-1]))


class PlanWayTest(unittest.TestCase):
    def test_from_a_plan_to_its_timetable(self):
        net, labels = net_by(PLAN_TEXT)
        self.assertEqual(read_net(show_net(net)), net)
        table, wait, tree = best_for(net)[1:]
        self.assertEqual(shown_by(net, tree), ("wait", wait))
        rows = timetable(PLAN_TEXT).split("\n")
        self.assertEqual(rows[-1], f"waits {wait}")
        self.assertEqual([row.split(" ")[0] for row in rows], ["east", "back", "waits"])
        self.assertEqual(rows[0][:17], "east west 0 mid 1")
        times = tuple(int(word) for row in rows[:-1] for word in row.split(" ") if word.isdigit())
        self.assertIs(fits(net, times), True)
        self.assertEqual((wait_of(net, times), times[0]), (wait, 0))
        self.assertEqual(hours_of(PLAN_TEXT, times), "\n".join(rows[:-1]))
        self.assertEqual(labels[2], ("east", "mid", "goes"))

    def test_a_plan_changed_for_more_rows(self):
        after = PLAN_TEXT + "\napart back east mid 5"
        old = best_for(net_by(PLAN_TEXT)[0])[1]
        net = net_by(after)[0]
        self.assertEqual(broken_in(net, old), (len(net[2]) - 1,))
        told = fewest_moved(net, old)
        self.assertEqual(told[0], "moved")
        self.assertIs(fits(net, told[2]), True)
        self.assertEqual(len(hours_of(after, told[2]).split("\n")), 2)
        self.assertEqual(timetable(PLAN_TEXT + "\napart back east mid 6"), "none")

    def test_plans_by_chance_and_their_nets_otherwise(self):
        chance = random.Random(328)
        told = []
        while len(told) < 20:
            text = plan_by_chance(chance, chance.choice((7, 10, 60)), chance.randint(2, 3), chance.randint(2, 9))
            net = net_by(text)[0]
            if cases_of(net) <= 500:
                order = tuple(chance.sample(range(net[1]), net[1]))
                other = best_for(named_anew(mirrored(net), order))
                row = timetable(text).split("\n")[-1]
                self.assertEqual(row, "none" if other[0] == "none" else f"waits {other[2]}")
                told.append(row)
        self.assertGreater(len(set(told)), 3)

    def test_a_net_is_no_plan_and_a_plan_is_no_net(self):
        refused(self, NoText, net_by, NET_TEXT)
        refused(self, NoText, read_net, PLAN_TEXT)
        refused(self, NoText, net_by, timetable(PLAN_TEXT))
        self.assertEqual(refused(self, NoPlan, net_by, PLAN_TEXT + "\nmeet east back far mid 1").row, 9)


if __name__ == "__main__":
    unittest.main()
