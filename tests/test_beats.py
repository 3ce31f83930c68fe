import unittest

from helper import GREATEST, LARGE, far, is_beat, is_whole, moments
from knell.beats import beat, how_many, moved, next_from, rings, times
from knell.errors import KnellError, NoBeat

LOW = -50
HIGH = 50
BEATS = [(rest, gap) for gap in range(1, 10) for rest in range(gap)]
LARGE_BEATS = [(rest, gap) for gap in LARGE for rest in (0, 1, gap // 3, gap - 1)]


class Made(unittest.TestCase):

    def check(self, first, gap):
        made = beat(first, gap)
        with self.subTest(first=first, gap=gap, made=made):
            self.assertTrue(is_beat(made))
            self.assertEqual(made[1], gap)
            self.assertEqual((first - made[0]) % gap, 0)

    def test_small_moments(self):
        for gap in range(1, 30):
            for first in range(-70, 71):
                self.check(first, gap)

    def test_written_out(self):
        self.assertEqual(beat(7, 5), (2, 5))
        self.assertEqual(beat(5, 5), (0, 5))
        self.assertEqual(beat(4, 5), (4, 5))
        self.assertEqual(beat(0, 5), (0, 5))
        self.assertEqual(beat(-1, 5), (4, 5))
        self.assertEqual(beat(-5, 5), (0, 5))
        self.assertEqual(beat(-7, 5), (3, 5))
        self.assertEqual(beat(-7, 1), (0, 1))

    def test_many_figures(self):
        for gap in [1, 2, 24] + LARGE:
            for first in [0, 1, -1] + LARGE + [-number for number in LARGE]:
                self.check(first, gap)
        self.assertEqual(beat(-GREATEST, 10 ** 59), (1, 10 ** 59))
        self.assertEqual(beat(-1, GREATEST), (GREATEST - 1, GREATEST))

    def test_the_same_moments_make_equal_beats(self):
        for rest, gap in BEATS + LARGE_BEATS:
            for steps in [-far(gap), -far(gap) // 2, 0, far(gap) // 3, far(gap)]:
                self.assertEqual(beat(rest + steps * gap, gap), (rest, gap))

    def test_other_moments_make_other_beats(self):
        made = {beat(rest, gap) for rest, gap in BEATS}
        self.assertEqual(len(made), len(BEATS))

    def test_gaps_below_one_are_refused(self):
        for gap in [0, -1, -2, -24, -GREATEST]:
            for first in [-GREATEST, -1, 0, 1, 7, GREATEST]:
                with self.subTest(first=first, gap=gap):
                    with self.assertRaises(KnellError) as caught:
                        beat(first, gap)
                    self.assertIs(type(caught.exception), NoBeat)

    def test_arguments_by_name(self):
        self.assertEqual(beat(gap=4, first=9), (1, 4))


class Rings(unittest.TestCase):

    def test_just_at_its_moments(self):
        for one in BEATS:
            own = moments(one[0], one[1], LOW, HIGH)
            for moment in range(LOW, HIGH):
                with self.subTest(one=one, moment=moment):
                    self.assertIs(rings(one, moment), moment in own)

    def test_many_figures(self):
        for one in LARGE_BEATS:
            for steps in [-far(one[1]), 0, far(one[1])]:
                moment = one[0] + steps * one[1]
                with self.subTest(one=one, moment=moment):
                    self.assertIs(rings(one, moment), True)
                    self.assertIs(rings(one, moment + 1), False)
                    self.assertIs(rings(one, moment - 1), False)

    def test_a_made_beat_rings_at_its_first_moment(self):
        for gap in [1, 2, 24] + LARGE:
            for first in [0, 5, -5] + LARGE + [-number for number in LARGE]:
                self.assertIs(rings(beat(first, gap), first), True)

    def test_arguments_by_name(self):
        self.assertIs(rings(moment=-1, one=(3, 4)), True)


class NextFrom(unittest.TestCase):

    def test_small_moments(self):
        for one in BEATS:
            for moment in range(LOW, HIGH):
                told = next_from(one, moment)
                with self.subTest(one=one, moment=moment, told=told):
                    self.assertTrue(is_whole(told))
                    self.assertEqual(told, moments(one[0], one[1], moment, moment + one[1])[0])

    def test_written_out(self):
        self.assertEqual(next_from((2, 5), 7), 7)
        self.assertEqual(next_from((2, 5), 8), 12)
        self.assertEqual(next_from((2, 5), 6), 7)
        self.assertEqual(next_from((2, 5), 0), 2)
        self.assertEqual(next_from((2, 5), -3), -3)
        self.assertEqual(next_from((2, 5), -2), 2)
        self.assertEqual(next_from((2, 5), -4), -3)
        self.assertEqual(next_from((2, 5), -9), -8)
        self.assertEqual(next_from((0, 1), -9), -9)

    def test_many_figures(self):
        for one in LARGE_BEATS:
            for steps in [-far(one[1]), 0, far(one[1])]:
                moment = one[0] + steps * one[1]
                with self.subTest(one=one, moment=moment):
                    self.assertEqual(next_from(one, moment), moment)
                    self.assertEqual(next_from(one, moment + 1), moment + one[1])
                    self.assertEqual(next_from(one, moment - 1), moment)
                    self.assertTrue(is_whole(next_from(one, moment)))

    def test_arguments_by_name(self):
        self.assertEqual(next_from(moment=4, one=(3, 4)), 7)


class HowMany(unittest.TestCase):

    def test_small_moments(self):
        for one in BEATS:
            for low in range(-22, 23):
                for high in range(-22, 23):
                    told = how_many(one, low, high)
                    with self.subTest(one=one, low=low, high=high, told=told):
                        self.assertTrue(is_whole(told))
                        self.assertEqual(told, len(moments(one[0], one[1], low, high)))

    def test_low_counts_and_high_does_not(self):
        self.assertEqual(how_many((2, 5), 2, 7), 1)
        self.assertEqual(how_many((2, 5), 2, 8), 2)
        self.assertEqual(how_many((2, 5), 3, 7), 0)
        self.assertEqual(how_many((2, 5), -3, -2), 1)
        self.assertEqual(how_many((2, 5), -8, 7), 3)

    def test_none_where_high_is_not_greater(self):
        for low, high in [(2, 2), (7, 2), (-3, -3), (2, -3), (3, 3), (GREATEST, -GREATEST)]:
            with self.subTest(low=low, high=high):
                told = how_many((2, 5), low, high)
                self.assertTrue(is_whole(told))
                self.assertEqual(told, 0)

    def test_many_figures(self):
        self.assertEqual(how_many((0, 1), -GREATEST, GREATEST), 2 * GREATEST)
        self.assertEqual(how_many((0, 10), -(10 ** 59), 10 ** 59), 2 * 10 ** 58)
        for one in LARGE_BEATS:
            steps = far(one[1])
            low = one[0] - steps * one[1]
            high = one[0] + steps * one[1]
            with self.subTest(one=one):
                self.assertEqual(how_many(one, low, high), 2 * steps)
                self.assertEqual(how_many(one, low, high + 1), 2 * steps + 1)
                self.assertEqual(how_many(one, low + 1, high + 1), 2 * steps)
                self.assertEqual(how_many(one, high, low), 0)

    def test_arguments_by_name(self):
        self.assertEqual(how_many(high=8, low=0, one=(3, 4)), 2)


class Moved(unittest.TestCase):

    def test_each_moment_is_moved(self):
        for one in BEATS:
            for by in range(-25, 26):
                told = moved(one, by)
                with self.subTest(one=one, by=by, told=told):
                    self.assertTrue(is_beat(told))
                    self.assertEqual(
                        moments(told[0], told[1], LOW, HIGH),
                        [moment + by for moment in moments(one[0], one[1], LOW - by, HIGH - by)],
                    )

    def test_written_out(self):
        self.assertEqual(moved((2, 5), 1), (3, 5))
        self.assertEqual(moved((2, 5), 3), (0, 5))
        self.assertEqual(moved((2, 5), 0), (2, 5))
        self.assertEqual(moved((2, 5), -1), (1, 5))
        self.assertEqual(moved((2, 5), -3), (4, 5))
        self.assertEqual(moved((2, 5), -10), (2, 5))

    def test_many_figures(self):
        for one in LARGE_BEATS + [(2, 5)]:
            for by in LARGE + [-number for number in LARGE]:
                told = moved(one, by)
                with self.subTest(one=one, by=by, told=told):
                    self.assertTrue(is_beat(told))
                    self.assertEqual(told[1], one[1])
                    self.assertEqual((told[0] - one[0] - by) % one[1], 0)
                    self.assertEqual(moved(told, -by), one)

    def test_arguments_by_name(self):
        self.assertEqual(moved(by=2, one=(3, 4)), (1, 4))


class Times(unittest.TestCase):

    def test_each_moment_that_many_times(self):
        for one in BEATS:
            for by in [-7, -3, -2, -1, 1, 2, 3, 7]:
                told = times(one, by)
                with self.subTest(one=one, by=by, told=told):
                    self.assertTrue(is_beat(told))
                    own = moments(one[0], one[1], -200, 201)
                    expected = sorted(moment * by for moment in own if -100 <= moment * by < 100)
                    self.assertEqual(moments(told[0], told[1], -100, 100), expected)

    def test_written_out(self):
        self.assertEqual(times((2, 5), 3), (6, 15))
        self.assertEqual(times((2, 5), 1), (2, 5))
        self.assertEqual(times((2, 5), -1), (3, 5))
        self.assertEqual(times((0, 5), -1), (0, 5))
        self.assertEqual(times((2, 5), -3), (9, 15))
        self.assertEqual(times((0, 1), -1), (0, 1))
        self.assertEqual(times((0, 1), 24), (0, 24))

    def test_many_figures(self):
        for one in LARGE_BEATS + [(2, 5)]:
            for by in LARGE:
                with self.subTest(one=one, by=by):
                    self.assertEqual(times(one, by), (one[0] * by, one[1] * by))
                    back = times(one, -by)
                    self.assertTrue(is_beat(back))
                    self.assertEqual(back[1], one[1] * by)
                    self.assertEqual((back[0] + one[0] * by) % (one[1] * by), 0)

    def test_times_nought_is_refused(self):
        for one in BEATS + LARGE_BEATS:
            with self.subTest(one=one):
                with self.assertRaises(KnellError) as caught:
                    times(one, 0)
                self.assertIs(type(caught.exception), NoBeat)

    def test_arguments_by_name(self):
        self.assertEqual(times(by=2, one=(3, 4)), (6, 8))


if __name__ == "__main__":
    unittest.main()
