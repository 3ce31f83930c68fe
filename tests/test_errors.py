import copy
import unittest

from knell.errors import Clash, KnellError, NoBeat, NoBell, NoName, TooMany, Twice

REFUSALS = [NoBeat, NoBell, TooMany, Twice, NoName, Clash]


class Classes(unittest.TestCase):

    def test_knell_error_stands_straight_under_value_error(self):
        self.assertEqual(KnellError.__bases__, (ValueError,))

    def test_each_refusal_stands_straight_under_knell_error(self):
        for refusal in REFUSALS:
            with self.subTest(refusal=refusal.__name__):
                self.assertEqual(refusal.__bases__, (KnellError,))
                self.assertTrue(issubclass(refusal, ValueError))

    def test_no_refusal_stands_under_another_one(self):
        for one in REFUSALS:
            for other in REFUSALS:
                with self.subTest(one=one.__name__, other=other.__name__):
                    self.assertEqual(issubclass(one, other), one is other)

    def test_each_refusal_is_called_as_told(self):
        names = [refusal.__name__ for refusal in REFUSALS]
        self.assertEqual(names, ["NoBeat", "NoBell", "TooMany", "Twice", "NoName", "Clash"])
        self.assertEqual(KnellError.__name__, "KnellError")

    def test_refusals_with_words_are_taken_as_knell_error(self):
        for refusal in [KnellError, NoBeat, NoBell, TooMany, Twice, NoName]:
            with self.subTest(refusal=refusal.__name__):
                with self.assertRaises(KnellError) as caught:
                    raise refusal("some words")
                self.assertIs(type(caught.exception), refusal)


class ClashFields(unittest.TestCase):

    def test_fields_are_those_handed_in(self):
        made = Clash("tenor", "treble", 6)
        self.assertEqual((made.first, made.second, made.divisor), ("tenor", "treble", 6))

    def test_fields_by_name(self):
        made = Clash(divisor=4, second="b", first="a")
        self.assertEqual((made.first, made.second, made.divisor), ("a", "b", 4))

    def test_two_clashes_keep_their_own_fields(self):
        one = Clash("a", "b", 2)
        other = Clash("c", "d", 3)
        self.assertEqual((one.first, one.second, one.divisor), ("a", "b", 2))
        self.assertEqual((other.first, other.second, other.divisor), ("c", "d", 3))

    def test_fields_of_a_raised_clash(self):
        with self.assertRaises(KnellError) as caught:
            raise Clash("a", "b", 10 ** 59)
        error = caught.exception
        self.assertIs(type(error), Clash)
        self.assertEqual((error.first, error.second, error.divisor), ("a", "b", 10 ** 59))

    def test_fields_of_a_copy(self):
        made = copy.copy(Clash("a", "b", 2))
        self.assertEqual((made.first, made.second, made.divisor), ("a", "b", 2))

    def test_all_three_are_asked_for(self):
        with self.assertRaises(TypeError):
            Clash("a", "b")


if __name__ == "__main__":
    unittest.main()
