import math
import unittest

from helper import GREATEST, LARGE, is_whole
from knell.wholes import weights


class Weights(unittest.TestCase):

    def check(self, one, other):
        told = weights(one, other)
        with self.subTest(one=one, other=other, told=told):
            self.assertIs(type(told), tuple)
            self.assertEqual(len(told), 3)
            self.assertTrue(all(is_whole(number) for number in told))
            d, u, v = told
            self.assertGreaterEqual(d, 0)
            self.assertEqual(d == 0, one == 0 and other == 0)
            if d != 0:
                self.assertEqual(one % d, 0)
                self.assertEqual(other % d, 0)
            self.assertEqual(u * one + v * other, d)
            self.assertEqual(d, math.gcd(one, other))

    def check_signs(self, one, other):
        for left in [one, -one]:
            for right in [other, -other]:
                self.check(left, right)
                self.check(right, left)

    def test_all_small_pairs(self):
        for one in range(-40, 41):
            for other in range(-40, 41):
                self.check(one, other)

    def test_told_divisors(self):
        self.assertEqual(weights(12, 18)[0], 6)
        self.assertEqual(weights(-12, 18)[0], 6)
        self.assertEqual(weights(12, -18)[0], 6)
        self.assertEqual(weights(-12, -18)[0], 6)
        self.assertEqual(weights(35, 64)[0], 1)

    def test_one_number_and_nought(self):
        for number in [1, 2, 7, 24] + LARGE:
            self.check_signs(number, 0)
            self.assertEqual(weights(number, 0)[0], number)
            self.assertEqual(weights(0, -number)[0], number)

    def test_nought_and_nought(self):
        self.check(0, 0)
        self.assertEqual(weights(0, 0)[0], 0)

    def test_a_number_and_itself(self):
        for number in [1, 2, 7, 24] + LARGE:
            self.check_signs(number, number)
            self.assertEqual(weights(-number, -number)[0], number)

    def test_a_number_and_one_that_it_goes_into(self):
        for number in [1, 2, 7, 24, 10 ** 29 + 3]:
            for many in [2, 3, 60, 10 ** 29 + 9]:
                self.check_signs(number, number * many)
                self.assertEqual(weights(-number, number * many)[0], number)

    def test_many_figures(self):
        for one in LARGE:
            for other in LARGE:
                self.check_signs(one, other)

    def test_many_figures_with_a_great_common_divisor(self):
        common = 10 ** 30 - 11
        self.check_signs(common * (10 ** 29 + 1), common * (10 ** 29 + 2))
        self.assertEqual(weights(common * (10 ** 29 + 1), common * (10 ** 29 + 2))[0], common)

    def test_many_steps(self):
        # Neighbours of this row take the most steps of all numbers of their size.
        one, other = 1, 1
        while one + other <= GREATEST:
            one, other = other, one + other
        self.check_signs(one, other)

    def test_arguments_by_name(self):
        d, u, v = weights(other=21, one=6)
        self.assertEqual((d, u * 6 + v * 21), (3, 3))


if __name__ == "__main__":
    unittest.main()
