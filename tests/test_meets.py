import itertools
import math
import random
import unittest

from helper import (
    GREATEST,
    LARGE,
    all_beats,
    at,
    heard,
    is_beat,
    is_list_of_wholes,
    is_whole,
    power_below_greatest,
    primes,
)
from knell.meets import clash, common_gap, met, together

BEATS = all_beats(9)
ALL_PAIRS = list(itertools.product(BEATS, BEATS))
SIXTY_PRIME_POWERS = [power_below_greatest(prime) for prime in primes(60)]


def sixty_gaps(seed):
    chance = random.Random(seed)
    return [chance.randrange(10 ** 59, 10 ** 60) for number in range(60)]


def sixty_gaps_with_much_in_common(seed):
    chance = random.Random(seed)
    return [math.prod(chance.choices(primes(25), k=30)) for number in range(60)]


class ClashOfTwo(unittest.TestCase):

    def test_small_beats(self):
        for one, other in ALL_PAIRS:
            told = clash(one, other)
            with self.subTest(one=one, other=other, told=told):
                if heard(one, -72, 72) & heard(other, -72, 72):
                    self.assertIsNone(told)
                else:
                    self.assertTrue(is_whole(told))
                    self.assertEqual(told, math.gcd(one[1], other[1]))

    def test_written_out(self):
        self.assertEqual(clash((0, 4), (1, 6)), 2)
        self.assertEqual(clash((1, 6), (0, 4)), 2)
        self.assertIsNone(clash((0, 4), (2, 6)))
        self.assertIsNone(clash((2, 6), (0, 4)))
        self.assertEqual(clash((1, 12), (9, 18)), 6)
        self.assertEqual(clash((0, 5), (4, 5)), 5)
        self.assertEqual(clash((1, 4), (3, 8)), 4)
        self.assertIsNone(clash((3, 4), (7, 8)))
        self.assertIsNone(clash((1, 4), (3, 7)))

    def test_never_with_itself_or_with_all_moments(self):
        for one in BEATS + at(10 ** 58, LARGE):
            with self.subTest(one=one):
                self.assertIsNone(clash(one, one))
                self.assertIsNone(clash(one, (0, 1)))
                self.assertIsNone(clash((0, 1), one))

    def test_many_figures(self):
        common = 10 ** 30 - 11
        one = (5, common * (10 ** 29 + 1))
        other = (5 + 7 * common, common * (10 ** 29 + 2))
        self.assertIsNone(clash(one, other))
        self.assertIsNone(clash(other, one))
        off = (other[0] + 1, other[1])
        self.assertEqual(clash(one, off), common)
        self.assertEqual(clash(off, one), common)
        self.assertEqual(clash((0, GREATEST), (GREATEST - 1, GREATEST)), GREATEST)

    def test_arguments_by_name(self):
        self.assertEqual(clash(other=(1, 6), one=(0, 9)), 3)


class Met(unittest.TestCase):

    def test_small_beats(self):
        for one, other in ALL_PAIRS:
            told = met(one, other)
            with self.subTest(one=one, other=other, told=told):
                both = heard(one, -150, 150) & heard(other, -150, 150)
                if not both:
                    self.assertIsNone(told)
                else:
                    self.assertTrue(is_beat(told))
                    self.assertEqual(told[1], math.lcm(one[1], other[1]))
                    self.assertEqual(heard(told, -150, 150), both)

    def test_written_out(self):
        self.assertEqual(met((1, 3), (2, 5)), (7, 15))
        self.assertEqual(met((2, 5), (1, 3)), (7, 15))
        self.assertEqual(met((0, 4), (2, 6)), (8, 12))
        self.assertEqual(met((3, 4), (7, 8)), (7, 8))
        self.assertEqual(met((7, 8), (3, 4)), (7, 8))
        self.assertEqual(met((2, 5), (0, 1)), (2, 5))
        self.assertIsNone(met((0, 4), (1, 6)))
        self.assertIsNone(met((3, 4), (5, 8)))

    def test_a_beat_and_itself(self):
        for one in BEATS + at(10 ** 58 + 1, LARGE):
            with self.subTest(one=one):
                self.assertEqual(met(one, one), one)

    def test_many_figures(self):
        for one_gap, other_gap in itertools.product(LARGE + [1, 24], repeat=2):
            for moment in [0, -1, GREATEST, -(10 ** 59) + 7]:
                one, other = at(moment, [one_gap, other_gap])
                gap = math.lcm(one_gap, other_gap)
                with self.subTest(one=one, other=other):
                    told = met(one, other)
                    self.assertTrue(is_beat(told))
                    self.assertEqual(told, (moment % gap, gap))

    def test_many_figures_that_clash(self):
        for gap in LARGE:
            with self.subTest(gap=gap):
                self.assertIsNone(met((0, gap), (1, gap)))
                self.assertIsNone(met((gap - 1, gap), (0, gap)))

    def test_arguments_by_name(self):
        self.assertEqual(met(other=(1, 3), one=(2, 5)), (7, 15))


class Together(unittest.TestCase):

    def check_beat(self, beats, told):
        self.assertIs(type(told), tuple)
        self.assertEqual(len(told), 3)
        self.assertEqual(told[0], "beat")
        self.assertTrue(is_beat(told[1]))
        self.assertEqual(told[1][1], math.lcm(*[gap for rest, gap in beats]))
        for rest, gap in beats:
            self.assertEqual(told[1][0] % gap, rest)
        self.assertTrue(is_list_of_wholes(told[2], len(beats)))
        if beats:
            parts = [weight * (told[1][1] // gap) for weight, (rest, gap) in zip(told[2], beats)]
            self.assertEqual(sum(parts), 1)

    def check_clash(self, told, i, j, d):
        self.assertIs(type(told), tuple)
        self.assertEqual(told, ("clash", i, j, d))
        self.assertTrue(is_list_of_wholes(list(told[1:]), 3))

    def check_small(self, beats, reach):
        rung = [heard(one, 0, reach) for one in beats]
        told = together(beats)
        with self.subTest(beats=beats, told=told):
            clashes = [
                (j, i)
                for j in range(len(beats))
                for i in range(len(beats))
                if not rung[i] & rung[j] and i != j
            ]
            if clashes:
                j = min(j for j, i in clashes if i < j)
                i = min(i for k, i in clashes if k == j)
                self.check_clash(told, i, j, math.gcd(beats[i][1], beats[j][1]))
            else:
                self.check_beat(beats, told)
                self.assertEqual(heard(told[1], 0, reach), set(range(reach)).intersection(*rung))

    def test_of_no_beats(self):
        told = together([])
        self.assertEqual(told, ("beat", (0, 1), []))
        self.check_beat([], told)

    def test_of_one_beat(self):
        for one in BEATS + at(10 ** 58 + 1, LARGE):
            with self.subTest(one=one):
                self.assertEqual(together([one]), ("beat", one, [1]))

    def test_of_two_beats(self):
        for one, other in ALL_PAIRS:
            self.check_small([one, other], 150)

    def test_of_three_beats(self):
        for beats in itertools.product(all_beats(4), repeat=3):
            self.check_small(list(beats), 24)

    def test_of_many_beats(self):
        chance = random.Random(11)
        small = [one for one in all_beats(12) if 24 % one[1] == 0 or 30 % one[1] == 0]
        for turn in range(600):
            self.check_small(chance.choices(small, k=chance.randrange(3, 9)), 240)

    def test_of_many_beats_that_ring_together(self):
        chance = random.Random(12)
        for turn in range(300):
            gaps = [chance.randrange(1, 13) for number in range(chance.randrange(3, 9))]
            beats = at(chance.randrange(-1000, 1000), gaps)
            told = together(beats)
            with self.subTest(beats=beats, told=told):
                self.check_beat(beats, told)

    def test_written_out(self):
        self.assertEqual(together([(1, 3), (2, 5), (3, 7)])[:2], ("beat", (52, 105)))
        self.assertEqual(together([(0, 4), (2, 6), (8, 9)])[:2], ("beat", (8, 36)))

    def test_beats_alike(self):
        for beats in [
            [(2, 5)] * 2,
            [(0, 1)] * 3,
            [(2, 5), (1, 3), (2, 5)],
            [(2, 6), (2, 4), (2, 6), (2, 4), (0, 1)],
            [(GREATEST - 1, GREATEST)] * 60,
        ]:
            told = together(beats)
            with self.subTest(beats=beats, told=told):
                self.check_beat(beats, told)

    def test_the_least_j_then_the_least_i(self):
        # The pairs 0 and 3, 1 and 2 clash: the second has the lesser j, though the greater i.
        self.check_clash(together([(0, 4), (0, 9), (1, 3), (1, 2)]), 1, 2, 3)
        # Beat 3 clashes with beats 1 and 2, and beat 4 with beat 0.
        self.check_clash(together([(0, 5), (0, 6), (0, 4), (1, 2), (1, 5)]), 1, 3, 2)
        # Each beat clashes with each other one.
        self.check_clash(together([(0, 6), (1, 6), (2, 6), (3, 6)]), 0, 1, 6)
        # Beats behind j that clash with it too are of no matter.
        self.check_clash(together([(0, 1), (0, 8), (3, 4), (1, 2), (0, 4)]), 1, 2, 4)

    def test_the_clash_is_that_of_the_two_and_not_of_all_ahead(self):
        # 12 goes into 24 and into the gap of all ahead, but of the two gaps only 3, or 4, goes into both.
        self.check_clash(together([(0, 3), (0, 4), (1, 24)]), 0, 2, 3)
        self.check_clash(together([(0, 3), (0, 4), (3, 24)]), 1, 2, 4)

    def test_sixty_beats_of_many_figures(self):
        for gaps in [
            sixty_gaps(1),
            sixty_gaps_with_much_in_common(2),
            SIXTY_PRIME_POWERS,
            [10 ** 59 + number for number in range(60)],
        ]:
            for moment in [0, -1, GREATEST, 10 ** 57 + 3]:
                beats = at(moment, gaps)
                told = together(beats)
                with self.subTest(moment=moment, gaps=gaps):
                    self.check_beat(beats, told)
                    self.assertEqual(told[1][0], moment % told[1][1])

    def test_sixty_beats_of_many_figures_that_clash(self):
        gaps = sixty_gaps_with_much_in_common(3)
        beats = at(10 ** 58 + 9, gaps)
        for j in [1, 30, 59]:
            rest = (beats[j][0] + 1) % gaps[j]
            changed = beats[:j] + [(rest, gaps[j])] + beats[j + 1:]
            i = min(i for i in range(j) if math.gcd(gaps[i], gaps[j]) != 1)
            with self.subTest(j=j):
                self.check_clash(together(changed), i, j, math.gcd(gaps[i], gaps[j]))

    def test_one_pair_alone_clashes_among_sixty(self):
        gaps = SIXTY_PRIME_POWERS[:59] + [SIXTY_PRIME_POWERS[41]]
        beats = at(-(10 ** 40), gaps)
        beats[59] = ((beats[59][0] + primes(60)[41]) % gaps[59], gaps[59])
        self.check_clash(together(beats), 41, 59, gaps[59])

    def test_weights_can_be_written_down(self):
        # Python writes no number of more than 4300 figures, unless it is told to.
        for gaps in [sixty_gaps(4), SIXTY_PRIME_POWERS]:
            told = together(at(-5, gaps))
            self.assertLess(max(abs(weight) for weight in told[2]), 10 ** 70)

    def test_arguments_by_name(self):
        self.assertEqual(together(beats=[(1, 2), (0, 2)]), ("clash", 0, 1, 2))


class CommonGap(unittest.TestCase):

    def check(self, beats):
        told = common_gap(beats)
        with self.subTest(beats=beats, told=told):
            self.assertTrue(is_whole(told))
            self.assertEqual(told, math.lcm(*[gap for rest, gap in beats]))

    def test_of_no_beats(self):
        self.assertEqual(common_gap([]), 1)
        self.assertTrue(is_whole(common_gap([])))

    def test_of_one_and_of_two(self):
        for one, other in ALL_PAIRS:
            self.check([one])
            self.check([one, other])

    def test_written_out(self):
        self.assertEqual(common_gap([(0, 4), (1, 6)]), 12)
        self.assertEqual(common_gap([(0, 4), (2, 6)]), 12)
        self.assertEqual(common_gap([(0, 2), (1, 2)]), 2)
        self.assertEqual(common_gap([(0, 1), (0, 1)]), 1)
        self.assertEqual(common_gap([(1, 4), (2, 6), (8, 9), (1, 4)]), 36)

    def test_sixty_beats_of_many_figures(self):
        for gaps in [sixty_gaps(5), sixty_gaps_with_much_in_common(6), SIXTY_PRIME_POWERS]:
            self.check([(number, gap) for number, gap in enumerate(gaps)])
            self.check(at(GREATEST, gaps))

    def test_arguments_by_name(self):
        self.assertEqual(common_gap(beats=[(0, 2), (0, 3)]), 6)


if __name__ == "__main__":
    unittest.main()
