"""What is refused of plans: points 2, 27 and 28."""

import unittest

from hourtable.errors import NoText
from hourtable.plans import net_by
from tests.planned import ROWS, TWO, PlanCase, text_of
from tests.samples import GREATEST, NO_TEXTS, PLAIN_NETS, Odd, deep_tuple, knotted_list, refused


class NoTextTest(PlanCase):
    def no_row(self, row):
        """Hold that a row is of no form, wherever it stands behind the first."""
        for rows in ((*TWO, row), (*TWO, row, "apart a b q 4"), (TWO[0], row, *TWO[1:]), (TWO[0], row)):
            self.no_text(text_of(*rows))

    def no_first(self, row):
        """Hold that a row can't be the first."""
        self.no_text(row)
        self.no_text(text_of(row, *TWO[1:]))
        self.no_text(text_of(row, *TWO))

    def test_the_rows_as_they_are_told(self):
        self.assertEqual(len(net_by(text_of(*TWO, *ROWS))[0][2]), 14)

    def test_what_is_no_text(self):
        for thing in NO_TEXTS + PLAIN_NETS + (list(TWO), TWO, knotted_list(), deep_tuple(), Odd(), b"beat 60",
                                              bytearray(b"beat 60"), {"beat": 60}, ("beat", 60)):
            refused(self, NoText, net_by, thing)

    def test_no_row_at_all(self):
        for text in ("", "\n", " ", "\n\n", "  ", "0", "beat"):
            self.no_text(text)

    def test_blanks(self):
        self.no_first("beat  60")
        self.no_first(" beat 60")
        self.no_first("beat 60 ")
        self.no_first("beat\t60")
        for row in TWO[1:] + ROWS:
            self.no_row(" " + row)
            self.no_row(row + " ")
            for place, sign in enumerate(row):
                if sign == " ":
                    self.no_row(row[:place] + " " + row[place:])
                    self.no_row(row[:place] + "\t" + row[place + 1:])
                    self.no_row(row[:place] + row[place + 1:])

    def test_empty_rows(self):
        for text in (text_of(*TWO, ""), text_of("", *TWO), text_of(TWO[0], "", *TWO[1:]), text_of(*TWO, "", ""),
                     text_of(*TWO, " "), "beat 60\n"):
            self.no_text(text)

    def test_other_line_ends(self):
        for end in ("\r\n", "\r", "\x0b", "\x0c", "\u2028", "\x85", " "):
            self.no_text(end.join(TWO))
            self.no_text(text_of(*TWO) + end)

    def test_a_word_left_out_or_put_in(self):
        for row in TWO[1:] + ROWS:
            words = row.split(" ")
            for place in range(len(words)):
                self.no_row(" ".join(words[:place] + words[place + 1:]))
            for place in range(len(words) + 1):
                for word in ("1", "a", words[0], "-", ""):
                    self.no_row(" ".join(words[:place] + [word] + words[place:]))
        for row in ("beat", "60", "beat beat 60", "beat 60 60", "a beat 60", "beat a 60", "beat 60 happenings 3"):
            self.no_first(row)

    def test_no_number_in_the_place_of_one(self):
        words = ("00", "01", "+1", "-1", "-0", "a", "1a", "a1", "1.0", "1e0", "0x1", "1_0", "~", "A", "1" * 61,
                 "0" * 60 + "1", "1" * 5000, "\u0661", "\uff11", "\u00b2", "1\u0661", "1\r", "1\x00", "\ud800")
        for word in words:
            self.no_first(f"beat {word}")
            for row in TWO[1:] + ROWS:
                parts = row.split(" ")
                for place, part in enumerate(parts):
                    if part.isdigit():
                        self.no_row(" ".join(parts[:place] + [word] + parts[place + 1:]))

    def test_no_name_in_the_place_of_one(self):
        words = ("A", "aB", "Ab", "a1", "1a", "1", "0", "a-b", "a_b", "a.", "~", "a\t", "abcdefghi", "a" * 5000,
                 "\u00e4", "\u00aa", "\u00df", "\uff41", "\u0430", "a\u0301", "a\r", "\ud800", "None")
        for word in words:
            for row in TWO[1:] + ROWS:
                parts = row.split(" ")
                for place, part in enumerate(parts):
                    if place > 0 and not part.isdigit():
                        self.no_row(" ".join(parts[:place] + [word] + parts[place + 1:]))

    def test_no_first_word(self):
        for word in ("lines", "Line", "LINE", "lin", "stays", "Stay", "changes", "Change", "aparts", "meets", "beat",
                     "waits", "none", "a", "0", "\u0430part"):
            for row in TWO[1:] + ROWS:
                self.no_row(" ".join([word] + row.split(" ")[1:]))

    def test_another_first_row(self):
        for row in ROWS + ("Beat 60", "BEAT 60", "beats 60", "60 beat", "beat sixty", "line a p 10 q"):
            self.no_first(row)
        self.no_row("beat 60")
        self.no_text(text_of(*TWO[1:]))

    def test_a_line_with_one_stop(self):
        for row in ("line a p", "line a p 1", "line a", "line", "line a p q", "line a p 1 2", "line a p 1 q 2",
                    "line a p q 1", "line a 1 p 1 q", "line p 1 q", "line a p 1 q r", "line a p 1 q 2 3"):
            self.no_row(row)

    def test_rows_of_one_form_with_the_first_word_of_another(self):
        kinds = ("line", "stay", "change", "apart", "meet")
        for row in ROWS:
            for kind in kinds:
                if kind != row.split(" ")[0]:
                    self.no_row(" ".join([kind] + row.split(" ")[1:]))

    def test_sixty_figures_and_sixty_one(self):
        more = "1" + "0" * 60
        self.no_first(f"beat {more}")
        for row in (f"line c r {more} t", f"stay a q {more} {more} 7", f"stay a q 2 {more} 7", f"stay a q 2 5 {more}",
                    f"change a b q {more} {more} 8", f"apart a b r {more}", f"meet a b q r {more}"):
            self.no_row(row)


class NoPlanTest(PlanCase):
    def refused_behind(self, *rows):
        """Hold that the last of these rows is the one that is refused, whatever stands behind it."""
        self.no_plan(len(rows) + 2, *TWO, *rows)
        self.no_plan(len(rows) + 2, *TWO, *rows, "apart a b q 4", "line a p 1 q", "apart a a q 4")
        self.no_plan(len(rows) + 4, *TWO, "apart a b q 4", "change b a r 1 2 3", *rows)

    def test_the_beat(self):
        self.no_plan(0, "beat 0", *TWO[1:])
        self.no_plan(0, "beat 0")
        self.no_plan(0, "beat 0", "line a p 1 p", "stay b q 5 4 1")
        self.told("beat 1\nline a p 1 q", (1, 2, ((0, 1, 1, 1, 0),)))

    def test_a_line_s_name_told_before(self):
        self.refused_behind("line a p 1 q")
        self.refused_behind("line b x 1 y")
        self.refused_behind("line c x 1 y", "line c y 1 x")
        self.no_plan(2, "beat 60", "line a p 1 q", "line a p 1 q")

    def test_a_stop_twice_in_a_line(self):
        self.refused_behind("line c p 1 p")
        self.refused_behind("line c p 1 q 2 p")
        self.refused_behind("line c p 1 q 2 q")
        self.no_plan(1, "beat 60", "line a p 1 q 2 r 3 q")
        # As a name of a line and of its stop one word may stand.
        self.told("beat 60\nline a a 1 b", (60, 2, ((0, 1, 1, 1, 0),)))

    def test_a_line_that_is_not_told(self):
        self.refused_behind("stay c q 0 0 0")
        for row in ("change a c q 1 2 3", "change c a q 1 2 3", "change c d q 1 2 3", "apart a c q 4", "apart c a q 4",
                    "meet a c q r 1", "meet c a q r 1", "stay p q 0 0 0", "apart q r q 4"):
            self.refused_behind(row)

    def test_a_line_that_is_told_only_behind(self):
        for row in ("stay c q 0 0 0", "change a c q 1 2 3", "change c a q 1 2 3", "apart a c q 4", "apart c a q 4",
                    "meet c b q r 1", "meet b c r q 1"):
            self.no_plan(3, *TWO, row, "line c p 1 q 2 r")
            self.assertEqual(len(net_by(text_of(*TWO, "line c p 1 q 2 r", row))[1]), 16)
        self.no_plan(2, "beat 60", TWO[1], "apart a b q 4", TWO[2])
        self.no_plan(1, "beat 60", "apart a b q 4", TWO[1], TWO[2])

    def test_a_stay_at_no_inner_stop(self):
        for row in ("stay a p 0 0 0", "stay a s 0 0 0", "stay a t 0 0 0", "stay b s 0 0 0", "stay b p 0 0 0",
                    "stay a a 0 0 0"):
            self.refused_behind(row)
        self.refused_behind("line c p 1 q", "stay c p 0 0 0")
        self.refused_behind("line c p 1 q", "stay c q 0 0 0")

    def test_a_change_where_the_one_doesn_t_come_or_the_other_doesn_t_go(self):
        for row in ("change a b p 1 2 3", "change b a s 1 2 3", "change a b t 1 2 3", "change a b a 1 2 3"):
            self.refused_behind(row)
        self.refused_behind("line c q 1 t", "change c a q 1 2 3")
        self.refused_behind("line c t 1 q", "change a c q 1 2 3")
        self.refused_behind("line c t 1 p", "change c b p 1 2 3")
        self.refused_behind("line c s 1 t", "change c b s 1 2 3")
        self.refused_behind("line c t 1 u", "change a c q 1 2 3")
        self.refused_behind("line c t 1 u", "change c a q 1 2 3")

    def test_an_apart_where_one_of_them_doesn_t_go(self):
        for row in ("apart a b p 4", "apart a b s 4", "apart b a p 4", "apart b a s 4", "apart a b t 4"):
            self.refused_behind(row)
        self.refused_behind("line c t 1 u", "apart a c q 4")
        self.refused_behind("line c t 1 u", "apart c a q 4")

    def test_a_meet_where_they_don_t_ride_so(self):
        for row in ("meet a b r q 1", "meet b a q r 1", "meet a b q s 1", "meet a b p r 1", "meet a b q q 1",
                    "meet a b q t 1", "meet a b t q 1", "meet a b s p 1", "meet b a p s 1", "meet a b s r 1"):
            self.refused_behind(row)
        self.refused_behind("line c q 1 r", "meet a c q r 1")
        self.refused_behind("line c r 1 p 2 q", "meet a c q r 1")
        self.refused_behind("line c r 1 p 2 q", "meet c a r q 1")
        self.refused_behind("line c r 1 t", "meet a c q r 1")
        self.refused_behind("line c t 1 q", "meet a c q r 1")

    def test_the_same_line_twice(self):
        for row in ("change a a q 1 2 3", "apart a a q 4", "meet a a q r 1", "change b b q 1 2 3", "apart b b r 1"):
            self.refused_behind(row)

    def test_a_stay_told_before(self):
        self.refused_behind("stay a q 1 2 3", "stay a q 1 2 3")
        self.refused_behind("stay a q 1 2 3", "stay a r 1 2 3", "stay a q 4 5 6")
        self.refused_behind("stay a q 0 0 0", "stay b q 0 0 0", "stay b q 0 0 0")

    def test_spans_that_are_none(self):
        for row in ("stay a q", "change a b q"):
            for numbers in ("1 0 0", "5 4 3", "0 60 1", "5 65 1", "0 61 1", "0 1000 1", "1 2 1000000000001",
                            f"1 2 {'9' * 60}", f"0 {'9' * 60} 1", f"{'9' * 60} 0 1", f"{'9' * 60} {'9' * 59}8 1"):
                self.refused_behind(f"{row} {numbers}")
        self.no_plan(2, "beat 1", "line a p 1 q 2 r", "stay a q 0 1 0")
        self.no_plan(2, "beat 1", "line a p 1 q 2 r", "stay a q 1 0 0")

    def test_aparts_that_are_none(self):
        # With no gap it would be as wide as the beat, with more than half a beat its most is below its least.
        for gap in (0, 31, 32, 60, 61, 1000, GREATEST):
            self.refused_behind(f"apart a b q {gap}")
        for beat, gap in ((1, 0), (1, 1), (2, 0), (2, 2), (61, 31), (GREATEST, 0), (GREATEST, 5 * 10 ** 59)):
            self.no_plan(3, f"beat {beat}", "line a p 1 q", "line b p 1 q", f"apart a b p {gap}")

    def test_meets_that_are_none(self):
        # The rides of a and b between q and r come to 25: with gaps of 17 there is room for them.
        for gap in (18, 19, 60, 1000, GREATEST):
            self.refused_behind(f"meet a b q r {gap}")
        for beat, ride, back, gap in ((9, 0, 0, 0), (1, 0, 0, 0), (9, 5, 5, 0), (9, 4, 4, 1), (9, 9, 1, 0),
                                      (9, 1, 9, 0), (9, 0, 10, 0), (9, 0, 0, 5),
                                      (GREATEST, GREATEST, GREATEST, GREATEST),
                                      (GREATEST, GREATEST, 0, 1), (GREATEST, 0, GREATEST, 1), (GREATEST, 0, 0, 0)):
            self.no_plan(3, f"beat {beat}", f"line a p {ride} q", f"line b q {back} p", f"meet a b p q {gap}")
        for beat, ride, back, gap in ((9, 5, 4, 0), (9, 0, 9, 0), (9, 9, 0, 0), (9, 3, 4, 1), (9, 1, 0, 4),
                                      (9, 0, 1, 0)):
            text = text_of(f"beat {beat}", f"line a p {ride} q", f"line b q {back} p", f"meet a b p q {gap}")
            self.assertEqual(net_by(text)[0][2][2], (0, 2, ride + gap, beat - back - gap, 0))

    def test_more_than_sixteen_happenings(self):
        self.no_plan(1, "beat 60", "line a b 1 c 1 d 1 e 1 f 1 g 1 h 1 i 1 j 1 k")
        self.no_plan(5, *TWO, "line c p 1 q", "line d p 1 q", "line e p 1 q")
        self.no_plan(5, *TWO, "line c p 1 q", "line d p 1 q", "line e p 1 q", "apart a a q 1")
        self.no_plan(4, *TWO, "line c p 1 q", "line d p 1 q 2 r")
        rows = [f"line {name} p 1 q" for name in "abcdefghi"]
        self.assertEqual(net_by(text_of("beat 60", *rows[:8]))[0][1], 16)
        self.no_plan(9, "beat 60", *rows)
        stops = [f"{one}{other}" for one in "abcdefghij" for other in "klmnop"]
        self.no_plan(1, "beat 60", "line a " + " 1 ".join(stops))

    def test_more_than_forty_spans(self):
        thirty = ("apart a b q 4",) * 30
        self.assertEqual(len(net_by(text_of(*TWO, *thirty))[0][2]), 40)
        for row in ("apart a b q 4", "change a b q 1 2 3", "meet a b q r 1"):
            self.no_plan(33, *TWO, *thirty, row)
            self.no_plan(33, *TWO, *thirty, row, row)
            self.assertEqual(len(net_by(text_of(*TWO, *thirty[:29], row))[0][2]), 40)

    def test_a_line_row_with_which_there_are_more_than_forty_spans(self):
        many = ("apart a b q 4",) * 30
        self.no_plan(33, *TWO, *many, "line c p 1 q")
        self.assertEqual(len(net_by(text_of(*TWO, *many[:29], "line c p 1 q"))[0][2]), 40)
        # Two rides and a stay, which is counted here though it isn't told.
        self.assertEqual(len(net_by(text_of(*TWO, *many[:27], "line c p 1 q 2 r"))[0][2]), 40)
        self.no_plan(31, *TWO, *many[:28], "line c p 1 q 2 r")
        self.no_plan(31, *TWO, *many[:27], "line c p 1 q 2 r", "apart a b q 4")

    def test_a_stay_row_counts_no_span_more(self):
        full = (*TWO, *("apart a b q 4",) * 30)
        stays = ("stay a q 1 2 3", "stay a r 1 2 3", "stay b q 1 2 3", "stay b r 1 2 3")
        self.assertEqual(len(net_by(text_of(*full, *stays))[0][2]), 40)
        self.no_plan(37, *full, *stays, "apart a b q 4")

    def test_several_causes_in_several_rows(self):
        self.no_plan(3, *TWO, "apart a b q 31", "line a p 1 q", "stay c q 1 2 3")
        self.no_plan(4, *TWO, "apart a b q 30", "line a p 1 q", "apart a b q 31", "stay c q 1 2 3")
        self.no_plan(1, "beat 60", "line a p 1 p", "line a p 1 q", "line a q 1 p")
        self.no_plan(0, "beat 0", "line a p 1 p", "apart a a q 4")
        self.no_plan(3, *TWO, "line b p 1 p", "line c c 1 c")

    def test_several_causes_in_one_row(self):
        for row in ("line a p 1 p", "stay c q 5 4 1000000000001", "change a a p 5 4 1000000000001", "apart c c q 31",
                    "meet a a q q 60", "stay a p 5 4 3"):
            self.refused_behind(row)

    def test_a_refused_line_row_is_not_waited_for(self):
        self.no_plan(2, "beat 60", "line a p 1 q", "line b q 1 q", "apart a b q 1")

    def test_a_plan_without_lines(self):
        self.no_plan(0, "beat 60")
        self.no_plan(0, "beat 1")
        self.no_plan(0, f"beat {GREATEST}")

    def test_a_plan_without_lines_and_with_other_faults(self):
        for row in ("stay a q 0 0 0", "change a b q 1 2 3", "apart a b q 4", "meet a b q r 1", "apart a a q 0"):
            self.no_plan(1, "beat 60", row)
            self.no_plan(1, "beat 60", row, row)
        self.no_plan(0, "beat 0", "stay a q 0 0 0")
        self.no_plan(1, "beat 60", "line a p 1 p")
        self.no_text("beat 60\n")
        self.no_text("beat 60\nline a p")


class NoTextFirstTest(PlanCase):
    def test_no_text_goes_ahead_of_no_plan(self):
        for row in ("line c p", "apart a b q 04", "", "meet a b q r", "stay a q 1 2 3 ", "line c p 1 Q"):
            self.no_text(text_of("beat 0", *TWO[1:], row))
            self.no_text(text_of(*TWO, "line a p 1 p", row))
            self.no_text(text_of(*TWO, row, "apart a a q 31"))
            self.no_text(text_of("beat 60", row))
            self.no_text(text_of(*TWO, "apart a c q 31", row, "apart a c q 31"))
        self.no_text(text_of(*TWO, *("apart a b q 4",) * 31, "apart"))
        self.no_text(text_of(*[f"line {name} p 1 q" for name in "abcdefghi"]))


if __name__ == "__main__":
    unittest.main()
