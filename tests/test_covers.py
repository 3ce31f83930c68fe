import itertools
import math
import random
import unittest

from helper import GREATEST, LARGE, all_beats, at, heard, is_beat, is_list_of_wholes, is_whole, moments, primes
from knell.covers import least, less, roll, silent, under
from knell.errors import KnellError, NoBell, TooMany

BEATS = all_beats(9)
ALL_PAIRS = list(itertools.product(BEATS, BEATS))
LARGE_BEATS = at(10 ** 58 + 1, LARGE)


class Under(unittest.TestCase):

    def test_small_beats(self):
        for one, other in ALL_PAIRS:
            with self.subTest(one=one, other=other):
                self.assertIs(under(one, other), heard(one, -72, 72) <= heard(other, -72, 72))

    def test_written_out(self):
        self.assertIs(under((3, 8), (3, 4)), True)
        self.assertIs(under((7, 8), (3, 4)), True)
        self.assertIs(under((3, 4), (7, 8)), False)
        self.assertIs(under((5, 8), (3, 4)), False)
        self.assertIs(under((3, 8), (3, 5)), False)
        self.assertIs(under((3, 8), (0, 1)), True)
        self.assertIs(under((0, 1), (0, 2)), False)

    def test_a_beat_and_itself(self):
        for one in BEATS + LARGE_BEATS:
            with self.subTest(one=one):
                self.assertIs(under(one, one), True)

    def test_many_figures(self):
        gap = 10 ** 29 + 3
        one = (gap * 7 + 5, gap * 10 ** 30)
        self.assertIs(under(one, (5, gap)), True)
        self.assertIs(under((5, gap), one), False)
        self.assertIs(under(one, (6, gap)), False)
        self.assertIs(under(one, (5, gap + 1)), False)
        self.assertIs(under((0, GREATEST), (1, GREATEST)), False)

    def test_arguments_by_name(self):
        self.assertIs(under(other=(1, 2), one=(3, 4)), True)


class Least(unittest.TestCase):

    def check(self, beats):
        told = least(beats)
        with self.subTest(beats=beats, told=told):
            self.assertIs(type(told), tuple)
            self.assertEqual(len(told), 3)
            found, gap_weights, rest_weights = told
            self.assertTrue(is_beat(found))
            self.assertTrue(is_list_of_wholes(gap_weights, len(beats)))
            self.assertTrue(is_list_of_wholes(rest_weights, len(beats)))
            self.assertIsNot(gap_weights, rest_weights)
            total = sum(weight * gap for weight, (rest, gap) in zip(gap_weights, beats))
            total += sum(weight * (rest - beats[0][0]) for weight, (rest, gap) in zip(rest_weights, beats))
            self.assertEqual(total, found[1])
            # The weights show that no greater gap will do; that this one does is left to ask.
            for rest, gap in beats:
                self.assertEqual(gap % found[1], 0)
                self.assertEqual(rest % found[1], found[0])
        return found

    def check_small(self, beats):
        found = self.check(beats)
        heard_of_all = set().union(*[heard(one, 0, 60) for one in beats])
        self.assertTrue(heard_of_all <= heard(found, 0, 60))
        for other in all_beats(6):
            if heard_of_all <= heard(other, 0, 60):
                self.assertTrue(heard(found, 0, 60) <= heard(other, 0, 60), (beats, found, other))

    def test_of_one_beat(self):
        for one in BEATS + LARGE_BEATS:
            self.assertEqual(self.check([one]), one)

    def test_of_two_beats(self):
        for one, other in itertools.product(all_beats(6), repeat=2):
            self.check_small([one, other])

    def test_of_three_beats(self):
        chance = random.Random(21)
        small = all_beats(6)
        for turn in range(800):
            self.check_small(chance.choices(small, k=3))

    def test_of_many_beats(self):
        chance = random.Random(22)
        for turn in range(400):
            common = chance.randrange(1, 8)
            beats = []
            for number in range(chance.randrange(4, 12)):
                gap = common * chance.randrange(1, 30)
                beats.append(((3 + common * chance.randrange(30)) % gap, gap))
            self.check(beats)

    def test_written_out(self):
        self.assertEqual(least([(3, 12), (7, 8)])[0], (3, 4))
        self.assertEqual(least([(7, 8), (3, 12)])[0], (3, 4))
        self.assertEqual(least([(3, 12), (5, 8)])[0], (1, 2))
        self.assertEqual(least([(3, 12), (6, 8)])[0], (0, 1))
        self.assertEqual(least([(0, 6), (2, 6), (4, 6)])[0], (0, 2))
        self.assertEqual(least([(1, 6), (4, 6)])[0], (1, 3))
        self.assertEqual(least([(5, 10), (0, 10)])[0], (0, 5))

    def test_beats_alike(self):
        for beats in [[(2, 5)] * 2, [(0, 1)] * 3, [(2, 6), (5, 9), (2, 6)], [(GREATEST - 1, GREATEST)] * 60]:
            self.check(beats)
        self.assertEqual(least([(2, 5)] * 2)[0], (2, 5))
        self.assertEqual(least([(GREATEST - 1, GREATEST)] * 60)[0], (GREATEST - 1, GREATEST))

    def test_sixty_beats_of_many_figures(self):
        chance = random.Random(23)
        for common in [1, 24, 10 ** 20 + 39, 10 ** 55]:
            beats = []
            for number in range(60):
                gap = common * chance.randrange(1, GREATEST // common + 1)
                beats.append(((7 + common * chance.randrange(10 ** 6)) % gap, gap))
            self.assertEqual(self.check(beats)[1] % common, 0)

    def test_sixty_beats_whose_common_number_falls_at_each_step(self):
        few = primes(33)
        whole = math.prod(few)
        beats = [(0, whole // prime) for prime in few]
        self.assertEqual(self.check(beats), (0, 1))
        rests = [(whole // prime % 2 ** 190, 2 ** 190) for prime in few]
        self.check(rests)
        # Each weight but the first is below the first gap, so all of them can be written down.
        found = least(beats + rests[:27])
        self.check(beats + rests[:27])
        self.assertLess(max(abs(weight) for weight in found[1] + found[2]), 10 ** 70)

    def test_of_no_beats_is_refused(self):
        with self.assertRaises(KnellError) as caught:
            least([])
        self.assertIs(type(caught.exception), NoBell)

    def test_arguments_by_name(self):
        self.assertEqual(least(beats=[(1, 6), (4, 6)])[0], (1, 3))


class Less(unittest.TestCase):

    def check(self, one, other):
        told = less(one, other)
        with self.subTest(one=one, other=other, told=told):
            self.assertIs(type(told), list)
            self.assertTrue(all(is_beat(each) for each in told))
            self.assertEqual([rest for rest, gap in told], sorted({rest for rest, gap in told}))
            clashing = not heard(one, 0, 150) & heard(other, 0, 150)
            if clashing:
                self.assertEqual(told, [one])
            else:
                self.assertLessEqual({gap for rest, gap in told}, {math.lcm(one[1], other[1])})
            rung = [moment for each in told for moment in moments(each[0], each[1], -150, 150)]
            self.assertEqual(sorted(rung), sorted(heard(one, -150, 150) - heard(other, -150, 150)))

    def test_small_beats(self):
        for one, other in ALL_PAIRS:
            self.check(one, other)

    def test_written_out(self):
        self.assertEqual(less((1, 2), (1, 4)), [(3, 4)])
        self.assertEqual(less((0, 2), (1, 3)), [(0, 6), (2, 6)])
        self.assertEqual(less((1, 2), (2, 3)), [(1, 6), (3, 6)])
        self.assertEqual(less((2, 4), (2, 6)), [(6, 12), (10, 12)])
        self.assertEqual(less((0, 1), (2, 5)), [(0, 5), (1, 5), (3, 5), (4, 5)])

    def test_two_that_clash(self):
        self.assertEqual(less((0, 4), (1, 6)), [(0, 4)])
        self.assertEqual(less((1, 6), (0, 4)), [(1, 6)])
        # The clash is told, however many beats the gaps would make else.
        self.assertEqual(less((0, 2), (1, 2 * 61)), [(0, 2)])
        self.assertEqual(less((0, 2), (1, 10 ** 59)), [(0, 2)])

    def test_the_one_under_the_other(self):
        self.assertEqual(less((7, 8), (3, 4)), [])
        self.assertEqual(less((3, 4), (0, 1)), [])
        for one in BEATS + LARGE_BEATS:
            self.assertEqual(less(one, one), [])
            self.assertEqual(less(one, (0, 1)), [])

    def test_two_times(self):
        self.check((3, 5), (3, 10))
        self.check((3, 5), (8, 10))
        self.assertEqual(less((3, 5), (8, 10)), [(3, 10)])
        gap = 3 ** 120
        self.assertEqual(less((7, gap), (7, 2 * gap)), [(7 + gap, 2 * gap)])

    def test_sixty_times_are_told_and_sixty_one_refused(self):
        gap = 10 ** 57 + 9
        for first in [0, gap // 2, gap - 1]:
            one = (first, gap)
            for number in [0, 31, 59]:
                told = less(one, (first + number * gap, 60 * gap))
                expected = [(first + k * gap, 60 * gap) for k in range(60) if k != number]
                self.assertEqual(told, expected)
            for number in [0, 31, 60]:
                self.refused(one, (first + number * gap, 61 * gap))

    def test_the_bound_where_no_gap_goes_into_the_other(self):
        # The least number that both go into is 60 times 7, and 61 times 7.
        self.assertEqual(less((3, 7), (11, 60)), [(3 + 7 * k, 420) for k in range(60) if (3 + 7 * k) % 60 != 11])
        self.refused((3, 7), (11, 61))
        # Here it is 60 times, and 61 times, the one's gap, though the other's gap is greater.
        self.assertEqual(len(less((2, 12), (2, 360))), 29)
        self.assertEqual(len(less((2, 12), (2, 720))), 59)
        self.refused((2, 12), (2, 732))
        # The bound is on the one's gap alone: the other's may be far less.
        self.assertEqual(less((5, 7 * 10 ** 50), (5, 2)), [])
        self.assertEqual(len(less((5, 7 * 10 ** 50), (1, 59))), 58)
        self.refused((5, 7 * 10 ** 50), (1, 61))

    def test_far_beyond_the_bound(self):
        self.refused((0, 1), (0, GREATEST))
        self.refused((0, GREATEST), (0, GREATEST - 1))
        self.refused((3, 10 ** 30), (4, 7 ** 60))

    def refused(self, one, other):
        with self.subTest(one=one, other=other):
            with self.assertRaises(KnellError) as caught:
                less(one, other)
            self.assertIs(type(caught.exception), TooMany)

    def test_arguments_by_name(self):
        self.assertEqual(less(other=(1, 4), one=(1, 2)), [(3, 4)])


class RollAndSilent(unittest.TestCase):

    def check(self, beats):
        told = roll(beats)
        with self.subTest(beats=beats, told=told):
            gap = math.lcm(*[gap for rest, gap in beats])
            self.assertIs(type(told), list)
            self.assertEqual(len(told), gap)
            self.assertTrue(all(number is None or is_whole(number) for number in told))
            rung = [heard(one, 0, gap) for one in beats]
            expected = []
            for moment in range(gap):
                ringing = [number for number, own in enumerate(rung) if moment in own]
                expected.append(ringing[0] if ringing else None)
            self.assertEqual(told, expected)
            first = silent(beats)
            if None in expected:
                self.assertTrue(is_whole(first))
                self.assertEqual(first, expected.index(None))
            else:
                self.assertIsNone(first)

    def refused(self, beats):
        for asked in [roll, silent]:
            with self.subTest(beats=beats, asked=asked.__name__):
                with self.assertRaises(KnellError) as caught:
                    asked(beats)
                self.assertIs(type(caught.exception), TooMany)

    def test_of_no_beats(self):
        self.assertEqual(roll([]), [None])
        self.assertEqual(silent([]), 0)
        self.assertTrue(is_whole(silent([])))

    def test_of_one_and_of_two(self):
        for one in BEATS:
            self.check([one])
        for one, other in ALL_PAIRS:
            self.check([one, other])

    def test_of_many(self):
        chance = random.Random(31)
        small = [one for one in all_beats(60) if 60 % one[1] == 0]
        for turn in range(300):
            self.check(chance.choices(small, k=chance.randrange(3, 61)))

    def test_written_out(self):
        self.assertEqual(roll([(0, 2), (0, 3)]), [0, None, 0, 1, 0, None])
        self.assertEqual(silent([(0, 2), (0, 3)]), 1)
        self.assertEqual(roll([(0, 3), (0, 2)]), [0, None, 1, 0, 1, None])
        self.assertEqual(roll([(1, 3)]), [None, 0, None])
        self.assertEqual(silent([(1, 3)]), 0)
        self.assertEqual(silent([(0, 2), (1, 4)]), 3)
        self.assertEqual(roll([(0, 1)]), [0])
        self.assertIsNone(silent([(0, 1)]))
        # Two, three, four, six and twelve together leave no moment silent.
        self.assertIsNone(silent([(0, 2), (0, 3), (1, 4), (5, 6), (7, 12)]))
        self.assertEqual(silent([(0, 2), (0, 3), (1, 4), (5, 6)]), 7)

    def test_beats_alike(self):
        self.check([(1, 4)] * 3)
        self.assertEqual(roll([(1, 2), (1, 2)]), [None, 0])
        self.check([(2, 6), (0, 4), (2, 6), (0, 4)])

    def test_the_bound(self):
        self.check([(999, 1000)])
        self.check([(3, 8), (124, 125), (0, 500)])
        self.check([(rest, 1000) for rest in range(60)])
        self.assertEqual(silent([(rest, 1000) for rest in range(60)]), 60)
        self.check([(1, 7), (2, 11), (3, 12)])
        self.refused([(0, 1001)])
        self.refused([(1, 7), (2, 11), (3, 13)])
        self.refused([(0, 1), (0, 1001)])

    def test_the_last_moment_alone_is_silent(self):
        beats = [(0, 2), (1, 4), (3, 8), (7, 16), (15, 32), (31, 64), (63, 128), (127, 256), (255, 512)]
        self.check(beats)
        self.assertEqual(silent(beats), 511)

    def test_far_beyond_the_bound(self):
        self.refused([(0, GREATEST)])
        self.refused(at(10 ** 58, [10 ** 59 + number for number in range(60)]))
        # Though all moments ring, or the first one is silent at once.
        self.refused([(0, 1), (5, 2000)])
        self.refused([(5, 2000)])

    def test_arguments_by_name(self):
        self.assertEqual(roll(beats=[(1, 2)]), [None, 0])
        self.assertEqual(silent(beats=[(0, 2)]), 1)


if __name__ == "__main__":
    unittest.main()
