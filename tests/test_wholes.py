"""Whole numbers: point 2, and their figures in point 5."""

import unittest

from hourtable.errors import NoText
from hourtable.wholes import greatest_whole, is_whole, is_within, read_whole
from tests.samples import GREATEST, NO_NUMBERS


class WholesTest(unittest.TestCase):
    def test_an_int_that_is_no_truth(self):
        for number in (0, 1, -1, 60, GREATEST, -GREATEST, 10 ** 10000):
            self.assertIs(is_whole(number), True)
        for thing in NO_NUMBERS:
            self.assertIs(is_whole(thing), False)
            self.assertIs(is_within(thing, -5, 5), False)

    def test_within(self):
        self.assertEqual([is_within(number, 2, 4) for number in range(1, 6)], [False, True, True, True, False])

    def test_the_greatest_has_sixty_figures(self):
        self.assertEqual(str(greatest_whole()), "9" * 60)

    def test_read(self):
        for number in (0, 1, 9, 10, 100, 1234567890, GREATEST):
            self.assertEqual(read_whole(str(number)), number)

    def test_refused(self):
        for word in ("", "00", "01", "-1", "+1", " 1", "1 ", "1\n", "a", "1_0", "\u0661", "1" * 61, "1" * 5000):
            with self.assertRaises(NoText, msg=word):
                read_whole(word)


if __name__ == "__main__":
    unittest.main()
