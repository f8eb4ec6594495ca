"""How nets are written and read: points 2 and 5."""

import unittest

from hourtable.errors import NoText
from hourtable.nets import is_net
from hourtable.nettexts import read_net, show_net
from tests.samples import GREATEST, NO_TEXTS, PLAIN_NETS

HEAD = "beat 60 happenings 3"
SPAN = "0 1 5 9 3"


def is_of_wholes(thing):
    """Whether this is a whole number or a tuple of such, however deep, and nothing else."""
    if type(thing) is tuple:
        return all(is_of_wholes(part) for part in thing)
    return type(thing) is int


class ShowTest(unittest.TestCase):
    def test_no_span(self):
        self.assertEqual(show_net((1, 1, ())), "beat 1 happenings 1")
        self.assertEqual(show_net((60, 16, ())), "beat 60 happenings 16")

    def test_one_span(self):
        self.assertEqual(show_net((60, 3, ((2, 0, 5, 64, 7),))), "beat 60 happenings 3\n2 0 5 64 7")

    def test_several_spans_in_their_order(self):
        net = (60, 3, ((2, 1, 9, 9, 0), (0, 1, 0, 59, 10 ** 12), (0, 1, 0, 59, 10 ** 12)))
        text = "beat 60 happenings 3\n2 1 9 9 0\n0 1 0 59 1000000000000\n0 1 0 59 1000000000000"
        self.assertEqual(show_net(net), text)

    def test_numbers_of_sixty_figures(self):
        nines = "9" * 60
        net = (GREATEST, 2, ((0, 1, 0, GREATEST - 1, 1), (1, 0, GREATEST, GREATEST, 0)))
        text = f"beat {nines} happenings 2\n0 1 0 {nines[1:]}8 1\n1 0 {nines} {nines} 0"
        self.assertEqual(show_net(net), text)

    def test_it_is_a_text(self):
        for net in PLAIN_NETS:
            self.assertIs(type(show_net(net)), str)


class ReadTest(unittest.TestCase):
    def test_what_is_written_is_read_again(self):
        for net in PLAIN_NETS:
            with self.subTest(net=net):
                again = read_net(show_net(net))
                self.assertEqual(again, net)
                self.assertTrue(is_of_wholes(again))
                self.assertIs(is_net(again), True)

    def test_texts_by_hand(self):
        self.assertEqual(read_net("beat 1 happenings 1"), (1, 1, ()))
        self.assertEqual(read_net(HEAD + "\n" + SPAN), (60, 3, ((0, 1, 5, 9, 3),)))
        self.assertEqual(read_net(HEAD + "\n2 0 0 0 0\n" + SPAN), (60, 3, ((2, 0, 0, 0, 0), (0, 1, 5, 9, 3))))

    def test_forty_spans(self):
        self.assertEqual(read_net(HEAD + ("\n" + SPAN) * 40), (60, 3, ((0, 1, 5, 9, 3),) * 40))


class RefusedTest(unittest.TestCase):
    def refused(self, text):
        with self.assertRaises(NoText, msg=repr(text)):
            read_net(text)

    def refused_span(self, row):
        self.refused(HEAD + "\n" + row)
        self.refused(HEAD + "\n" + row + "\n" + SPAN)
        self.refused(HEAD + "\n" + SPAN + "\n" + row)

    def test_what_is_no_text(self):
        for thing in NO_TEXTS + PLAIN_NETS:
            with self.assertRaises(NoText):
                read_net(thing)

    def test_no_rows_at_all(self):
        for text in ("", "\n", " ", "\n\n", SPAN, "\n" + HEAD, "beat", "0"):
            self.refused(text)

    def test_blanks(self):
        for row in ("0  1 5 9 3", "0 1 5 9  3", " 0 1 5 9 3", "0 1 5 9 3 ", "0 1 5 9 ", " 1 5 9 3", "0\t1 5 9 3"):
            self.refused_span(row)
        for row in (" " + HEAD, HEAD + " ", "beat  60 happenings 3", "beat 60  happenings 3", "beat 60 happenings  3",
                    "beat  happenings 3", "beat 60 happenings ", "beat\t60 happenings 3", "beat 60\nhappenings 3"):
            self.refused(row)
            self.refused(row + "\n" + SPAN)

    def test_a_word_left_out_or_put_in(self):
        words = SPAN.split(" ")
        for place in range(5):
            self.refused_span(" ".join(words[:place] + words[place + 1:]))
        for place in range(6):
            self.refused_span(" ".join(words[:place] + ["1"] + words[place:]))
        words = HEAD.split(" ")
        for place in range(4):
            self.refused(" ".join(words[:place] + words[place + 1:]))
        for place in range(5):
            for word in ("1", "beat", "happenings"):
                self.refused(" ".join(words[:place] + [word] + words[place:]))

    def test_another_first_row(self):
        for row in ("Beat 60 happenings 3", "beat 60 happening 3", "beats 60 happenings 3", "happenings 3 beat 60",
                    "beat 60 beat 3", "happenings 60 happenings 3", "60 beat 3 happenings", "beat 60 HAPPENINGS 3",
                    "beat sixty happenings 3", "60 3", "beat 60", SPAN, HEAD + "\n" + HEAD):
            self.refused(row)
            self.refused(row + "\n" + SPAN)

    def test_no_numeral_in_the_place_of_each_number(self):
        # The last ones are figures to Python, but none of 0 to 9.
        words = ("00", "01", "+1", "-1", "-0", "+0", "a", "1a", "a1", "1.0", "1e0", "0x1", "1_0", "1,", "", "~",
                 "None", "True", "1" * 61, "0" * 60 + "1", "1" * 5000,
                 "\u0661", "\u0967", "\uff11", "\u00b2", "\u2460", "\u00bd", "1\u0661", "1\r", "1\x00", "\ud800")
        for word in words:
            self.refused(f"beat {word} happenings 3")
            self.refused(f"beat 60 happenings {word}")
            for place in range(5):
                parts = ["0", "1", "1", "1", "1"]
                parts[place] = word
                self.refused_span(" ".join(parts))

    def test_sixty_figures_and_sixty_one(self):
        nines = "9" * 60
        more = "1" + "0" * 60
        self.assertEqual(read_net(f"beat {nines} happenings 1"), (GREATEST, 1, ()))
        self.refused(f"beat {more} happenings 1")
        self.assertEqual(read_net(f"{HEAD}\n0 1 {nines} {nines} 0"), (60, 3, ((0, 1, GREATEST, GREATEST, 0),)))
        self.refused_span(f"0 1 {nines} {more} 0")
        self.refused_span(f"0 1 {more} {more} 0")

    def test_empty_rows_and_line_ends(self):
        for text in (HEAD + "\n", HEAD + "\n\n", HEAD + "\n\n" + SPAN, HEAD + "\n" + SPAN + "\n",
                     HEAD + "\n" + SPAN + "\n\n" + SPAN, "\n" + HEAD + "\n" + SPAN, HEAD + "\n ",
                     HEAD + "\r\n" + SPAN, HEAD + "\r" + SPAN, HEAD + "\n" + SPAN + "\r", HEAD + "\x0b" + SPAN,
                     HEAD + "\u2028" + SPAN, HEAD + " " + SPAN):
            self.refused(text)

    def test_rows_that_tell_no_net(self):
        self.refused("beat 0 happenings 3")
        self.refused("beat 60 happenings 0")
        self.refused("beat 60 happenings 17")
        self.refused(HEAD + ("\n" + SPAN) * 41)
        for row in ("0 0 5 9 3", "2 2 5 9 3", "3 1 5 9 3", "0 3 5 9 3", "0 1 5 4 3", "0 1 5 65 3", "0 1 0 60 3",
                    "0 1 5 9 1000000000001"):
            self.refused_span(row)

    def test_what_lies_just_within_is_read(self):
        for row in ("2 1 5 9 3", "0 2 5 9 3", "0 1 5 5 3", "0 1 5 64 3", "0 1 0 59 3", "0 1 5 9 1000000000000"):
            self.assertEqual(show_net(read_net(HEAD + "\n" + row)), HEAD + "\n" + row)

    def test_each_text_one_sign_away_is_refused_or_another_net(self):
        text = "beat 10 happenings 2\n0 1 5 9 3\n1 0 0 7 20"
        signs = "0129 -+\nab\t.\u0661"
        for place in range(len(text) + 1):
            near = [text[:place] + text[place + 1:]]
            for sign in signs:
                near.append(text[:place] + sign + text[place:])
                near.append(text[:place] + sign + text[place + 1:])
            for other in near:
                try:
                    net = read_net(other)
                except NoText:
                    continue
                self.assertIs(is_net(net), True, other)
                self.assertEqual(show_net(net), other)


if __name__ == "__main__":
    unittest.main()
