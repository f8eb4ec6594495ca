"""The refusals: points 2 and the interface of hourtable/errors.py."""

import copy
import unittest

from hourtable import errors

OF_A_TEXT = (errors.NoText, errors.NoWay, errors.TooWide, errors.OtherBeats, errors.NoOrder)
ALL = OF_A_TEXT + (errors.TooGreat, errors.NoPlan)


class ClassesTest(unittest.TestCase):
    def test_each_is_under_hour_error_and_value_error(self):
        for refusal in ALL:
            with self.subTest(refusal=refusal):
                self.assertTrue(issubclass(refusal, errors.HourError))
                self.assertTrue(issubclass(refusal, ValueError))

    def test_hour_error_is_under_value_error_and_none_of_the_others(self):
        self.assertTrue(issubclass(errors.HourError, ValueError))
        for refusal in ALL:
            self.assertFalse(issubclass(errors.HourError, refusal))

    def test_none_is_under_another_one(self):
        for one in ALL:
            for other in ALL:
                self.assertEqual(issubclass(one, other), one is other, (one, other))

    def test_the_names_are_seven_unlike_classes(self):
        self.assertEqual(len(set(ALL)), 7)


class MadeByHandTest(unittest.TestCase):
    def test_those_of_a_text(self):
        for refusal in OF_A_TEXT + (errors.HourError,):
            with self.subTest(refusal=refusal):
                self.assertEqual(str(refusal("a word of it")), "a word of it")

    def test_too_great_has_many_then_most(self):
        made = errors.TooGreat(4097, 4096)
        self.assertEqual((made.many, made.most), (4097, 4096))

    def test_too_great_of_long_numbers(self):
        made = errors.TooGreat(10 ** 900, 40)
        self.assertEqual((made.many, made.most), (10 ** 900, 40))

    def test_no_plan_has_row(self):
        self.assertEqual(errors.NoPlan(0).row, 0)
        self.assertEqual(errors.NoPlan(12).row, 12)

    def test_fields_belong_to_each_object(self):
        one = errors.TooGreat(17, 16)
        other = errors.TooGreat(41, 40)
        self.assertEqual((one.many, one.most, other.many, other.most), (17, 16, 41, 40))

    def test_they_can_be_raised_and_taken(self):
        with self.assertRaises(errors.HourError) as taken:
            raise errors.TooGreat(41, 40)
        self.assertEqual((taken.exception.many, taken.exception.most), (41, 40))
        with self.assertRaises(ValueError) as taken:
            raise errors.NoPlan(3)
        self.assertEqual(taken.exception.row, 3)

    def test_a_copy_has_the_same_fields(self):
        again = copy.copy(errors.TooGreat(41, 40))
        self.assertEqual((again.many, again.most), (41, 40))
        self.assertEqual(copy.copy(errors.NoPlan(3)).row, 3)


if __name__ == "__main__":
    unittest.main()
