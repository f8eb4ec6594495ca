"""The hours of plans, and their timetables: points 2, 18 and 28."""

import random
import unittest
from unittest import mock

from hourtable.errors import NoPlan, NoText
from hourtable.forests import cases_of
from hourtable.hours import hours_of, timetable
from hourtable.leasts import best_for
from hourtable.plans import net_by
from hourtable.tables import fits, is_table, moved_by, wait_of
from tests.planned import bent, plan_by_chance, told_otherwise
from tests.samples import GREATEST, NO_TEXTS, Odd, deep_tuple, is_plain, knotted_list, refused, tables_of, too_great

TWO = "beat 60\nline a p 10 q 12 r\nline b r 13 q 11 p"
# Small enough that all tables of each can be gone through.
SMALL = (
    "beat 1\nline a p 0 q",
    "beat 7\nline a p 3 q",
    "beat 5\nline a p 13 q",
    "beat 6\nline a p 1 q 2 r\nstay a q 1 4 3",
    "beat 6\nline a p 1 q\nline b q 2 p\nchange a b q 2 4 3",
    "beat 6\nline a p 1 q\nline b q 2 p\nchange a b q 2 4 3\nchange b a p 1 3 2",
    "beat 6\nline a p 1 q\nline b q 2 p\nmeet a b p q 1\nchange a b q 0 5 7",
    "beat 6\nline a p 1 q\nline b q 2 p\nmeet a b p q 1\nchange a b q 0 0 7",
    "beat 6\nline a p 1 q\nline b p 2 q\napart a b p 3\napart b a p 2",
    "beat 6\nline a p 1 q\nline b p 2 q\nline c q 0 p\napart a b p 2\nchange a c q 1 5 3\nchange b c q 0 5 2",
    "beat 3\nline a p 1 q\nline b p 2 q\nline c p 0 q\napart a b p 1\napart b c p 1\napart a c p 1",
    "beat 2\nline a p 1 q\nline b p 1 q\nline c p 0 q\napart a b p 1\napart b c p 1\napart a c p 1",
)


def rows_of(text):
    return text.split("\n")


class HoursTest(unittest.TestCase):
    def told(self, text, table, hours):
        told = hours_of(text, table)
        self.assertEqual(told, hours)
        self.assertIs(type(told), str)

    def test_a_line_of_two_stops(self):
        self.told("beat 60\nline a p 10 q", (0, 10), "a p 0 q 10")
        self.told("beat 60\nline a p 10 q", (55, 5), "a p 55 q 5")

    def test_the_coming_ahead_of_the_going(self):
        self.told("beat 60\nline a p 10 q 12 r", (0, 10, 15, 27), "a p 0 q 10 15 r 27")
        self.told("beat 60\nline a p 10 q 12 r", (0, 15, 10, 27), "a p 0 q 15 10 r 27")

    def test_a_row_for_each_line(self):
        self.told(TWO, (1, 2, 3, 4, 5, 6, 7, 8), "a p 1 q 2 3 r 4\nb r 5 q 6 7 p 8")
        three = "beat 9\nline z p 1 q\nline a p 1 q\nline m q 1 p"
        self.told(three, (1, 2, 3, 4, 5, 6), "z p 1 q 2\na p 3 q 4\nm q 5 p 6")

    def test_rows_that_are_no_lines_tell_nothing(self):
        text = TWO + "\nstay a q 1 5 3\nchange a b q 2 3 4\napart a b q 3\nmeet a b q r 1\nline c p 1 s"
        self.told(text, tuple(range(10)), "a p 0 q 1 2 r 3\nb r 4 q 5 6 p 7\nc p 8 s 9")

    def test_nine_stops(self):
        text = "beat 60\nline a b 1 c 1 d 1 e 1 f 1 g 1 h 1 i 1 j"
        self.told(text, tuple(range(16)), "a b 0 c 1 2 d 3 4 e 5 6 f 7 8 g 9 10 h 11 12 i 13 14 j 15")

    def test_eight_lines(self):
        text = "beat 60\n" + "\n".join(f"line {name} p 1 q" for name in "abcdefgh")
        hours = "\n".join(f"{name} p {2 * place} q {2 * place + 1}" for place, name in enumerate("abcdefgh"))
        self.told(text, tuple(range(16)), hours)

    def test_names_alike(self):
        # A stop is called like its line, like its kind, and like another line's.
        self.told("beat 60\nline a a 1 goes 2 comes", (1, 2, 3, 4), "a a 1 goes 2 3 comes 4")
        self.told("beat 60\nline p q 1 p\nline q p 1 q", (1, 2, 3, 4), "p q 1 p 2\nq p 3 q 4")

    def test_tables_that_don_t_fit(self):
        self.told("beat 60\nline a p 10 q", (0, 0), "a p 0 q 0")
        self.told("beat 6\nline a p 1 q\nline b q 2 p\nmeet a b p q 1", (5, 5, 5, 5), "a p 5 q 5\nb q 5 p 5")

    def test_times_of_sixty_figures(self):
        text = f"beat {GREATEST}\nline a p 10 q"
        self.told(text, (GREATEST - 1, 9), f"a p {GREATEST - 1} q 9")

    def test_a_net_with_too_many_cases_is_not_refused(self):
        self.told("beat 5000\nline a p 10 q 12 r\nstay a q 0 4999 1", (0, 1, 2, 3), "a p 0 q 1 2 r 3")

    def test_tables_of_plans_by_chance(self):
        chance = random.Random(28)
        for turn in range(40):
            text = plan_by_chance(chance, chance.choice((1, 7, 60)), chance.randint(1, 4), turn % 9)
            net, labels = net_by(text)
            table = tuple(chance.randrange(net[0]) for _ in range(net[1]))
            rows = []
            for name in dict.fromkeys(label[0] for label in labels):
                times = {}
                for label, time in zip(labels, table):
                    if label[0] == name:
                        times.setdefault(label[1], []).append(time)
                rows.append(name + "".join(" " + " ".join(map(str, [stop, *there])) for stop, there in times.items()))
            self.told(text, table, "\n".join(rows))


class RefusedTest(unittest.TestCase):
    def refused(self, kind, text):
        there = refused(self, kind, net_by, text)
        for refusal in (refused(self, kind, hours_of, text, (0, 0)), refused(self, kind, timetable, text)):
            self.assertEqual(vars(refusal), vars(there))

    def test_no_text(self):
        for thing in NO_TEXTS + (Odd(), knotted_list(), deep_tuple(), "", "beat", "beat 60\n", "beat 60\nline a p",
                                 "beat 60\nline a p 1 q\n", "beat 60\nline a p 1 Q", "none", "a p 0 q 10"):
            self.refused(NoText, thing)

    def test_no_plan(self):
        for text in ("beat 60", "beat 0\nline a p 1 q", "beat 60\nline a p 1 p", "beat 60\nline a p 1 q\nline a p 1 q",
                     "beat 60\nline a p 1 q\nstay a q 0 0 0", "beat 60\nstay a q 0 0 0",
                     "beat 60\nline a p 1 q\nline b p 1 q\napart a b p 31"):
            self.refused(NoPlan, text)

    def test_the_row_of_no_plan(self):
        self.assertEqual(refused(self, NoPlan, timetable, "beat 60").row, 0)
        self.assertEqual(refused(self, NoPlan, timetable, TWO + "\napart a b q 0").row, 3)
        self.assertEqual(refused(self, NoPlan, hours_of, "beat 60", ()).row, 0)
        self.assertEqual(refused(self, NoPlan, hours_of, TWO + "\napart a b q 0", (0,) * 8).row, 3)

    def test_plans_bent(self):
        chance = random.Random(281)
        for turn in range(300):
            text = bent(chance, plan_by_chance(chance, 7, chance.randint(1, 2), turn % 4))
            there = told_otherwise(text)
            if not isinstance(there, tuple):
                self.refused(NoText if there == "no text" else NoPlan, text)


class TimetableCase(unittest.TestCase):
    def table_in(self, text, told):
        """The table of a plan's net that stands in its timetable."""
        net, labels = net_by(text)
        times = tuple(int(word) for row in rows_of(told)[:-1] for word in row.split(" ") if word.isdigit())
        self.assertIs(is_table(net, times), True)
        self.assertEqual("\n".join(rows_of(told)[:-1]), hours_of(text, times))
        return times

    def told(self, text, wait):
        """Hold that a plan's timetable waits so much, and is one; tell it."""
        told = timetable(text)
        self.assertIs(type(told), str)
        self.assertEqual(rows_of(told)[-1], f"waits {wait}")
        net = net_by(text)[0]
        table = self.table_in(text, told)
        self.assertEqual(table[0], 0)
        self.assertIs(fits(net, table), True)
        self.assertEqual(wait_of(net, table), wait)
        return told


class TimetableTest(TimetableCase):
    def test_a_line_of_two_stops(self):
        self.assertEqual(timetable("beat 60\nline a p 10 q"), "a p 0 q 10\nwaits 0")
        self.assertEqual(timetable("beat 60\nline a p 75 q"), "a p 0 q 15\nwaits 0")
        self.assertEqual(timetable("beat 1\nline a p 75 q"), "a p 0 q 0\nwaits 0")
        self.assertEqual(timetable(f"beat {GREATEST}\nline a p {GREATEST - 1} q"), f"a p 0 q {GREATEST - 1}\nwaits 0")

    def test_stays(self):
        self.assertEqual(timetable("beat 60\nline a p 10 q 12 r"), "a p 0 q 10 10 r 22\nwaits 0")
        self.assertEqual(timetable("beat 60\nline a p 10 q 12 r\nstay a q 3 9 2"), "a p 0 q 10 13 r 25\nwaits 0")

    def test_lines_that_no_row_joins(self):
        told = self.told("beat 60\nline a p 10 q\nline b p 20 q", 0)
        self.assertEqual(rows_of(told)[0], "a p 0 q 10")

    def test_changes_either_way(self):
        # Both rides and the least of both changes are 30 long: with a beat of 32 there are 2 to be waited somewhere.
        text = "beat 30\nline a p 10 q\nline b q 11 p\nchange a b q 5 12 3\nchange b a p 4 11 2"
        self.assertEqual(timetable(text), "a p 0 q 10\nb q 15 p 26\nwaits 0")
        text = "beat 32\nline a p 10 q\nline b q 11 p\nchange a b q 5 12 3\nchange b a p 4 11 2"
        self.assertEqual(timetable(text), "a p 0 q 10\nb q 15 p 26\nwaits 4")
        text = "beat 32\nline a p 10 q\nline b q 11 p\nchange a b q 5 12 1\nchange b a p 4 11 2"
        self.assertEqual(timetable(text), "a p 0 q 10\nb q 17 p 28\nwaits 2")

    def test_happening_0_is_at_0(self):
        # Whatever joins the lines, and whichever line the rows name first.
        for rows in ("change b a p 4 11 2\nchange a b q 5 12 1", "meet b a q p 3", "apart c a p 7\nchange c b q 1 9 1",
                     "stay c q 3 9 1\nchange c b q 1 9 1\napart c a p 7"):
            told = timetable("beat 32\nline a p 10 q\nline b q 11 p\nline c p 12 q 3 s\n" + rows)
            self.assertEqual(rows_of(told)[0], "a p 0 q 10")

    def test_happening_0_is_at_0_whichever_table_is_found(self):
        text = "beat 32\nline a p 10 q\nline b q 11 p\nchange a b q 5 12 1\nchange b a p 4 11 2"
        for number in (0, 1, 15, 31):
            def best_moved(net):
                told = best_for(net)
                return (told[0], moved_by(net, told[1], number)) + told[2:]
            with mock.patch("hourtable.hours.best_for", best_moved):
                self.assertEqual(timetable(text), "a p 0 q 10\nb q 17 p 28\nwaits 2")

    def test_none(self):
        for text in ("beat 6\nline a p 1 q\nline b q 2 p\nmeet a b p q 1\nchange a b q 0 0 7",
                     "beat 2\nline a p 1 q\nline b p 1 q\nline c p 0 q\napart a b p 1\napart b c p 1\napart a c p 1",
                     "beat 60\nline a p 10 q\nline b q 11 p\nchange a b q 5 5 3\nchange b a p 4 4 2",
                     "beat 60\nline a p 30 q\nline b q 29 p\nmeet a b p q 0\nchange a b q 9 9 1"):
            self.assertEqual(timetable(text), "none")

    def test_great_waits(self):
        beat = GREATEST
        text = (f"beat {beat}\nline a p 1 q\nline b q 1 p\nchange a b q 0 0 1\n"
                f"change b a p 0 {beat - 1} 1000000000000\nchange a b q 0 0 7")
        self.assertEqual(timetable(text), f"a p 0 q 1\nb q 1 p 2\nwaits {(beat - 2) * 10 ** 12}")


class LeastTest(TimetableCase):
    def held(self, text):
        """Hold a small plan's timetable against all tables of its net; tell whether there is one."""
        net = net_by(text)[0]
        waits = [wait_of(net, table) for table in tables_of(net) if fits(net, table)]
        if waits:
            self.told(text, min(waits))
        else:
            self.assertEqual(timetable(text), "none")
        return len(waits) > 0

    def test_small_plans(self):
        told = [self.held(text) for text in SMALL]
        self.assertIn(True, told)
        self.assertIn(False, told)

    def test_small_plans_by_chance(self):
        chance = random.Random(282)
        told = []
        while len(told) < 60:
            text = plan_by_chance(chance, chance.choice((2, 3, 4, 5)), chance.randint(1, 3), chance.randint(1, 9))
            net = net_by(text)[0]
            if len(net[2]) > net[1] and net[0] ** net[1] <= 5000:
                told.append(self.held(text))
        self.assertGreater(min(told.count(True), told.count(False)), 5)

    def test_great_plans_by_chance(self):
        chance = random.Random(283)
        asked = 0
        while asked < 12:
            text = plan_by_chance(chance, 60, 4, chance.choice((6, 10, 30)))
            net = net_by(text)[0]
            if cases_of(net) > 4096:
                too_great(self, cases_of(net), 4096, timetable, text)
                continue
            best = best_for(net)
            if best[0] == "none":
                self.assertEqual(timetable(text), "none")
            else:
                self.told(text, best[2])
                self.assertEqual(moved_by(net, best[1], -best[1][0])[0], 0)
            asked += 1


class TooGreatTest(TimetableCase):
    def test_cases_at_the_edge(self):
        self.told("beat 5000\nline a p 1 q 2 r\nstay a q 3 4097 1", 0)
        self.told("beat 5000\nline a p 1 q 2 r\nstay a q 3 4098 1", 0)
        too_great(self, 4097, 4096, timetable, "beat 5000\nline a p 1 q 2 r\nstay a q 3 4099 1")

    def test_several_spans(self):
        text = "beat 300\nline a p 1 q 2 r\nstay a q 0 16 1\nline b p 1 q 2 r\nstay b q 0 240 1"
        too_great(self, 17 * 241, 4096, timetable, text)
        self.told("beat 300\nline a p 1 q 2 r\nstay a q 0 15 1\nline b p 1 q 2 r\nstay b q 0 255 1", 0)

    def test_very_many(self):
        beat = GREATEST
        rows = [f"stay a {stop} 0 {beat - 1} 1" for stop in "cdefghi"]
        text = "\n".join([f"beat {beat}", "line a b 1 c 1 d 1 e 1 f 1 g 1 h 1 i 1 j"] + rows)
        too_great(self, beat ** 7, 4096, timetable, text)

    def test_also_where_no_table_fits(self):
        text = "beat 5000\nline a p 1 q 2 r\nstay a q 0 4096 1\nline b q 1 p"
        too_great(self, 4097, 4096, timetable, text + "\nchange a b q 0 0 0\nchange a b q 1 1 0")

    def test_behind_no_text_and_no_plan(self):
        text = "beat 5000\nline a p 1 q 2 r\nstay a q 0 4096 1"
        too_great(self, 4097, 4096, timetable, text)
        refused(self, NoText, timetable, text + "\n")
        refused(self, NoText, timetable, text + "\nstay a q 0 0")
        self.assertEqual(refused(self, NoPlan, timetable, text + "\nstay a q 0 0 0").row, 3)
        self.assertEqual(refused(self, NoPlan, timetable, text + "\nline a p 1 q").row, 3)
        self.assertEqual(refused(self, NoPlan, timetable, "beat 0" + text[9:]).row, 0)


class KindTest(unittest.TestCase):
    def test_asked_again_the_same_wait_is_told(self):
        for text in SMALL:
            self.assertEqual(rows_of(timetable(text))[-1], rows_of(timetable(text))[-1])
            self.assertTrue(is_plain(timetable(text)))


if __name__ == "__main__":
    unittest.main()
