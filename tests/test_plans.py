"""Plans, their nets and labels: points 2, 25 and 26."""

import random
import unittest

from hourtable.errors import NoPlan, NoText
from hourtable.plans import net_by
from tests.planned import RIDES, TWO, PlanCase, bent, plan_by_chance, text_of, told_otherwise
from tests.samples import GREATEST


class LinesTest(PlanCase):
    def test_two_stops(self):
        self.told("beat 60\nline a p 10 q", (60, 2, ((0, 1, 10, 10, 0),)), (("a", "p", "goes"), ("a", "q", "comes")))

    def test_three_stops(self):
        labels = (("a", "p", "goes"), ("a", "q", "comes"), ("a", "q", "goes"), ("a", "r", "comes"))
        spans = ((0, 1, 10, 10, 0), (1, 2, 0, 0, 0), (2, 3, 75, 75, 0))
        self.told("beat 60\nline a p 10 q 75 r", (60, 4, spans), labels)

    def test_nine_stops(self):
        stops = "bcdefghij"
        text = "beat 60\nline a b" + "".join(f" {place} {stop}" for place, stop in enumerate(stops[1:]))
        spans = []
        labels = [("a", "b", "goes")]
        for place, stop in enumerate(stops[1:]):
            spans += [(2 * place, 2 * place + 1, place, place, 0), (2 * place + 1, 2 * place + 2, 0, 0, 0)]
            labels += [("a", stop, "comes"), ("a", stop, "goes")]
        self.told(text, (60, 16, tuple(spans[:-1])), tuple(labels[:-1]))

    def test_several_lines(self):
        labels = (("b", "p", "goes"), ("b", "q", "comes"), ("a", "q", "goes"), ("a", "p", "comes"),
                  ("a", "p", "goes"), ("a", "r", "comes"), ("c", "q", "goes"), ("c", "p", "comes"))
        spans = ((0, 1, 1, 1, 0), (2, 3, 2, 2, 0), (3, 4, 0, 0, 0), (4, 5, 3, 3, 0), (6, 7, 4, 4, 0))
        self.told("beat 7\nline b p 1 q\nline a q 2 p 3 r\nline c q 4 p", (7, 8, spans), labels)

    def test_lines_that_ride_alike(self):
        spans = ((0, 1, 1, 1, 0), (2, 3, 1, 1, 0))
        labels = (("a", "p", "goes"), ("a", "q", "comes"), ("b", "p", "goes"), ("b", "q", "comes"))
        self.told("beat 7\nline a p 1 q\nline b p 1 q", (7, 4, spans), labels)

    def test_two_whole_lines(self):
        stops = ["p", "q", "r", "s"]
        labels = [("a", "p", "goes")] + [("a", stop, kind) for stop in stops[1:3] for kind in ("comes", "goes")]
        labels += [("a", "s", "comes"), ("b", "s", "goes")]
        labels += [("b", stop, kind) for stop in ("r", "q") for kind in ("comes", "goes")] + [("b", "p", "comes")]
        self.told(text_of(*TWO), (60, 12, RIDES), tuple(labels))

    def test_names_like_the_first_words(self):
        words = ("beat", "line", "stay", "change", "apart", "meet", "waits", "none")
        for word in words:
            self.told(f"beat 9\nline {word} {word} 1 a", (9, 2, ((0, 1, 1, 1, 0),)),
                      ((word, word, "goes"), (word, "a", "comes")))
        self.told("beat 9\nline line stay 1 meet 2 beat\nline stay meet 1 line\nstay line meet 1 2 3\n"
                  "change line stay meet 1 2 3",
                  (9, 6, ((0, 1, 1, 1, 0), (1, 2, 1, 2, 3), (2, 3, 2, 2, 0), (4, 5, 1, 1, 0), (1, 4, 1, 2, 3))))

    def test_names_of_eight_letters(self):
        self.told("beat 9\nline abcdefgh zzzzzzzz 1 zzzzzzzy", (9, 2, ((0, 1, 1, 1, 0),)),
                  (("abcdefgh", "zzzzzzzz", "goes"), ("abcdefgh", "zzzzzzzy", "comes")))

    def test_names_of_all_letters(self):
        spans = ((0, 1, 1, 1, 0), (1, 2, 0, 0, 0), (2, 3, 2, 2, 0))
        self.told("beat 9\nline abcdefgh ijklmnop 1 qrstuvwx 2 yz", (9, 4, spans),
                  (("abcdefgh", "ijklmnop", "goes"), ("abcdefgh", "qrstuvwx", "comes"),
                   ("abcdefgh", "qrstuvwx", "goes"), ("abcdefgh", "yz", "comes")))

    def test_rides_of_nothing_and_of_sixty_figures(self):
        nines = "9" * 60
        self.told(f"beat 1\nline a p 0 q {nines} r",
                  (1, 4, ((0, 1, 0, 0, 0), (1, 2, 0, 0, 0), (2, 3, GREATEST, GREATEST, 0))))
        self.told(f"beat {nines}\nline a p {nines} q", (GREATEST, 2, ((0, 1, GREATEST, GREATEST, 0),)))


class StaysTest(PlanCase):
    line = "line a p 10 q 12 r 14 s"

    def told_stays(self, rows, one, other, beat=60):
        spans = ((0, 1, 10, 10, 0), (1, 2) + one, (2, 3, 12, 12, 0), (3, 4) + other, (4, 5, 14, 14, 0))
        self.told(text_of(f"beat {beat}", self.line, *rows), (beat, 6, spans))

    def test_told_and_not_told(self):
        self.told_stays((), (0, 0, 0), (0, 0, 0))
        self.told_stays(("stay a q 1 5 7",), (1, 5, 7), (0, 0, 0))
        self.told_stays(("stay a r 1 5 7",), (0, 0, 0), (1, 5, 7))
        self.told_stays(("stay a q 1 5 7", "stay a r 2 6 8"), (1, 5, 7), (2, 6, 8))
        self.told_stays(("stay a r 2 6 8", "stay a q 1 5 7"), (1, 5, 7), (2, 6, 8))

    def test_numbers_at_the_bounds(self):
        self.told_stays(("stay a q 0 0 0",), (0, 0, 0), (0, 0, 0))
        self.told_stays(("stay a q 0 59 1000000000000",), (0, 59, 10 ** 12), (0, 0, 0))
        self.told_stays(("stay a q 75 134 1",), (75, 134, 1), (0, 0, 0))
        nines = "9" * 60
        self.told_stays((f"stay a q {nines} {nines} 1",), (GREATEST, GREATEST, 1), (0, 0, 0))
        self.told_stays((f"stay a r {GREATEST - 59} {nines} 1",), (0, 0, 0), (GREATEST - 59, GREATEST, 1))
        self.told_stays((f"stay a r 0 {GREATEST - 1} 1",), (0, 0, 0), (0, GREATEST - 1, 1), GREATEST)

    def test_a_line_that_others_stand_between(self):
        text = text_of("beat 60", self.line, "line b q 1 r 2 t", "stay b r 4 5 6", "stay a r 1 2 3")
        spans = ((0, 1, 10, 10, 0), (1, 2, 0, 0, 0), (2, 3, 12, 12, 0), (3, 4, 1, 2, 3), (4, 5, 14, 14, 0),
                 (6, 7, 1, 1, 0), (7, 8, 4, 5, 6), (8, 9, 2, 2, 0))
        self.told(text, (60, 10, spans))

    def test_the_same_stop_of_two_lines(self):
        text = text_of("beat 60", "line a p 1 q 2 r", "line b p 1 q 2 r", "stay b q 4 5 6", "stay a q 1 2 3")
        spans = ((0, 1, 1, 1, 0), (1, 2, 1, 2, 3), (2, 3, 2, 2, 0), (4, 5, 1, 1, 0), (5, 6, 4, 5, 6), (6, 7, 2, 2, 0))
        self.told(text, (60, 8, spans))


class BetweenTest(PlanCase):
    def test_change(self):
        self.told_between("change a b q 3 20 8", (1, 10, 3, 20, 8))
        self.told_between("change b a q 3 20 8", (9, 2, 3, 20, 8))
        self.told_between("change a b s 3 20 8", (5, 6, 3, 20, 8))
        self.told_between("change b a p 3 20 8", (11, 0, 3, 20, 8))

    def test_apart(self):
        self.told_between("apart a b q 4", (2, 10, 4, 56, 0))
        self.told_between("apart b a r 4", (8, 4, 4, 56, 0))
        self.told_between("apart a b q 1", (2, 10, 1, 59, 0))
        self.told_between("apart a b q 30", (2, 10, 30, 30, 0))
        self.told("beat 61\nline a p 1 q\nline b p 1 q\napart a b p 30",
                  (61, 4, ((0, 1, 1, 1, 0), (2, 3, 1, 1, 0), (0, 2, 30, 31, 0))))

    def test_meet(self):
        self.told_between("meet a b q r 1", (2, 8, 13, 46, 0))
        self.told_between("meet b a r q 1", (8, 2, 14, 47, 0))
        self.told_between("meet a b p q 0", (0, 10, 10, 49, 0))
        self.told_between("meet a b r s 5", (4, 6, 19, 40, 0))
        self.told_between("meet b a s r 5", (6, 4, 20, 41, 0))

    def test_a_meet_that_leaves_just_one_length(self):
        self.told_between("meet a b q r 17", (2, 8, 29, 30, 0))
        self.told("beat 59\nline a p 12 q\nline b q 13 p\nmeet a b p q 17",
                  (59, 4, ((0, 1, 12, 12, 0), (2, 3, 13, 13, 0), (0, 2, 29, 29, 0))))

    def test_a_meet_just_less_than_a_beat_wide(self):
        spans = ((0, 1, 0, 0, 0), (2, 3, 1, 1, 0), (0, 2, 0, 8, 0))
        self.told("beat 9\nline a p 0 q\nline b q 1 p\nmeet a b p q 0", (9, 4, spans))
        spans = ((0, 1, 1, 1, 0), (2, 3, 0, 0, 0), (0, 2, 1, 9, 0))
        self.told("beat 9\nline a p 1 q\nline b q 0 p\nmeet a b p q 0", (9, 4, spans))

    def test_numbers_at_the_bounds(self):
        nines = "9" * 60
        self.told_between("change a b q 0 0 0", (1, 10, 0, 0, 0))
        self.told_between("change a b q 0 59 1000000000000", (1, 10, 0, 59, 10 ** 12))
        self.told_between(f"change a b q {nines} {nines} 1", (1, 10, GREATEST, GREATEST, 1))
        self.told_between(f"change a b q {10 ** 60 - 60} {nines} 1", (1, 10, 10 ** 60 - 60, GREATEST, 1))
        lines = ((0, 1, 1, 1, 0), (2, 3, 1, 1, 0))
        head = f"beat {nines}\nline a p 1 q\nline b q 1 p\nline c p 1 q\n"
        spans = lines + ((4, 5, 1, 1, 0),)
        self.told(f"{head}apart a c p 1", (GREATEST, 6, spans + ((0, 4, 1, GREATEST - 1, 0),)))
        self.told(f"{head}meet a b p q 0", (GREATEST, 6, spans + ((0, 2, 1, GREATEST - 1, 0),)))
        self.told(f"{head}change a b q 0 {GREATEST - 1} 1", (GREATEST, 6, spans + ((1, 2, 0, GREATEST - 1, 1),)))

    def test_a_meet_where_ride_and_gap_have_sixty_figures(self):
        beat, ride = GREATEST, 10 ** 59 * 4
        gap = (beat - 2 * ride) // 2
        self.told(f"beat {beat}\nline a p {ride} q\nline b q {ride} p\nmeet a b p q {gap}",
                  (beat, 4, ((0, 1, ride, ride, 0), (2, 3, ride, ride, 0), (0, 2, ride + gap, beat - ride - gap, 0))))

    def test_in_the_order_of_their_rows(self):
        self.told_between("meet a b q r 1", "apart a b q 4", "change a b q 3 20 8", "apart b a r 4",
                          (2, 8, 13, 46, 0), (2, 10, 4, 56, 0), (1, 10, 3, 20, 8), (8, 4, 4, 56, 0))

    def test_stays_among_them(self):
        text = text_of(*TWO, "apart a b q 4", "stay b q 1 2 3", "change a b q 3 20 8", "stay a r 4 5 6")
        own = RIDES[:3] + ((3, 4, 4, 5, 6),) + RIDES[4:8] + ((9, 10, 1, 2, 3),) + RIDES[9:]
        self.told(text, (60, 12, own + ((2, 10, 4, 56, 0), (1, 10, 3, 20, 8))))

    def test_twice_the_same_row(self):
        self.told_between("apart a b q 4", "apart a b q 4", (2, 10, 4, 56, 0), (2, 10, 4, 56, 0))
        self.told_between("change a b q 3 4 8", "change a b q 3 4 8", (1, 10, 3, 4, 8), (1, 10, 3, 4, 8))

    def test_ahead_of_other_lines_rows(self):
        text = text_of(*TWO, "apart a b q 4", "line c q 3 r", "change c a r 1 2 3", "line d r 3 q", "meet c d q r 5")
        spans = RIDES + ((12, 13, 3, 3, 0), (14, 15, 3, 3, 0))
        between = ((2, 10, 4, 56, 0), (13, 4, 1, 2, 3), (12, 14, 8, 52, 0))
        self.told(text, (60, 16, spans + between))

    def test_a_change_to_a_line_told_ahead(self):
        self.told("beat 9\nline b q 1 p\nline a p 1 q\nchange a b q 0 8 1",
                  (9, 4, ((0, 1, 1, 1, 0), (2, 3, 1, 1, 0), (3, 0, 0, 8, 1))))


class ByChanceTest(PlanCase):
    def asked(self, text):
        """What net_by tells, or "no text", or the row of NoPlan."""
        try:
            return net_by(text)
        except NoText:
            return "no text"
        except NoPlan as refusal:
            return refusal.row

    def test_plans_as_they_are_told_otherwise(self):
        chance = random.Random(25)
        sizes = set()
        for turn in range(150):
            text = plan_by_chance(chance, chance.choice((1, 2, 7, 10, 60)), chance.randint(1, 4), turn % 12)
            net, labels = told_otherwise(text)
            self.told(text, net, labels)
            sizes.add(len(net[2]))
        self.assertGreater(len(sizes), 12)

    def test_plans_bent(self):
        chance = random.Random(27)
        seen = {}
        for turn in range(60):
            text = plan_by_chance(chance, chance.choice((1, 7, 60)), chance.randint(1, 4), turn % 9)
            for _ in range(30):
                other = bent(chance, text)
                there = told_otherwise(other)
                self.assertEqual(self.asked(other), there, other)
                kind = "net" if isinstance(there, tuple) else there
                seen[kind] = seen.get(kind, 0) + 1
        for kind in ("net", "no text", 0, 1, 2, 3, 4, 5):
            self.assertGreater(seen[kind], 4, kind)

    def test_very_long_texts(self):
        # Somewhat more than eight thousand signs are not refused for being so many.
        row = "stay abcdefgh abcdefgh 1 2 3"
        self.no_plan(1, "beat 60", *(row,) * 300)
        self.no_text(text_of("beat 60", *(row,) * 300, "stay"))
        self.no_plan(1, "beat 60", "line a " + " 1 ".join(["p"] * 4000))


if __name__ == "__main__":
    unittest.main()
