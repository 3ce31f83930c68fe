import math
import random
import unittest

from helper import GREATEST, at, is_beat, is_list_of_wholes, is_whole, power_below_greatest, primes
from knell.errors import Clash, KnellError, NoBeat, NoBell, NoName, Twice
from knell.meets import together
from knell.towers import Tower


def tower_of(bells):
    made = Tower()
    for name, first, gap in bells:
        made.hang(name, first, gap)
    return made


def names_of(many):
    letters = "abcdefghijklmnopqrstuvwxyz"
    return [letters[number // 26] + letters[number % 26] for number in range(many)]


class Refusals(unittest.TestCase):

    def refused(self, refusal, asked, *handed, **named):
        with self.assertRaises(KnellError) as caught:
            asked(*handed, **named)
        self.assertIs(type(caught.exception), refusal)
        return caught.exception


class Hang(Refusals):

    def test_a_new_tower_has_no_bells(self):
        self.assertEqual(Tower().bells(), [])

    def test_with_a_gap(self):
        made = Tower()
        self.assertIsNone(made.hang("a", 9, 4))
        self.assertIsNone(made.hang("b", -1, gap=6))
        self.assertIsNone(made.hang(gap=5, first=0, name="c"))
        self.assertEqual(made.bells(), [("a", (1, 4)), ("b", (5, 6)), ("c", (0, 5))])

    def test_without_a_gap(self):
        made = Tower()
        self.assertIsNone(made.hang("a", 5))
        made.hang("b", 24)
        made.hang("c", first=-1)
        self.assertEqual(made.bells(), [("a", (5, 24)), ("b", (0, 24)), ("c", (23, 24))])

    def test_edges_of_names_and_numbers(self):
        made = Tower()
        made.hang("z", -GREATEST, 1)
        made.hang("abcdefghijklmnopqrst", -1, GREATEST)
        self.assertEqual(made.bells(), [("z", (0, 1)), ("abcdefghijklmnopqrst", (GREATEST - 1, GREATEST))])

    def test_beats_alike_under_two_names(self):
        made = tower_of([("a", 1, 4), ("b", 5, 4)])
        self.assertEqual(made.bells(), [("a", (1, 4)), ("b", (1, 4))])

    def test_twice_is_refused(self):
        made = tower_of([("a", 1, 4), ("b", 2, 5)])
        for first, gap in [(1, 4), (2, 4), (0, 24), (1, GREATEST)]:
            self.refused(Twice, made.hang, "a", first, gap)
        self.refused(Twice, made.hang, "b", 7)
        self.assertEqual(made.bells(), [("a", (1, 4)), ("b", (2, 5))])

    def test_twice_ahead_of_no_beat(self):
        made = tower_of([("a", 1, 4)])
        for gap in [0, -1, -24, -GREATEST]:
            self.refused(Twice, made.hang, "a", 1, gap)
            self.refused(Twice, made.hang, "a", 1, gap=gap)
        self.assertEqual(made.bells(), [("a", (1, 4))])

    def test_a_gap_below_one_is_refused(self):
        made = tower_of([("a", 1, 4)])
        for gap in [0, -1, -24, -GREATEST]:
            for first in [0, 3, -GREATEST]:
                self.refused(NoBeat, made.hang, "b", first, gap)
                self.refused(NoBeat, made.hang, "b", first, gap=gap)
        self.assertEqual(made.bells(), [("a", (1, 4))])
        self.assertEqual(made.next_any(0), (1, ["a"]))

    def test_a_refused_name_may_be_hung_then(self):
        made = Tower()
        self.refused(NoBeat, made.hang, "a", 1, 0)
        self.refused(NoName, made.take, "a")
        made.hang("b", 1, 2)
        made.hang("a", 1, 3)
        self.assertEqual(made.bells(), [("b", (1, 2)), ("a", (1, 3))])


class Take(Refusals):

    def test_the_beat_is_told_and_the_bell_is_gone(self):
        made = tower_of([("a", 9, 4), ("b", -1, 6), ("c", 0, 5)])
        told = made.take("b")
        self.assertEqual(told, (5, 6))
        self.assertTrue(is_beat(told))
        self.assertEqual(made.bells(), [("a", (1, 4)), ("c", (0, 5))])
        self.assertEqual(made.take(name="a"), (1, 4))
        self.assertEqual(made.take("c"), (0, 5))
        self.assertEqual(made.bells(), [])

    def test_a_name_that_does_not_hang_is_refused(self):
        made = tower_of([("a", 9, 4), ("b", -1, 6)])
        for name in ["c", "aa", "ab"]:
            self.refused(NoName, made.take, name)
        self.refused(NoName, Tower().take, "a")
        self.assertEqual(made.bells(), [("a", (1, 4)), ("b", (5, 6))])

    def test_a_name_taken_twice_is_refused(self):
        made = tower_of([("a", 9, 4), ("b", -1, 6)])
        made.take("a")
        self.refused(NoName, made.take, "a")
        self.assertEqual(made.bells(), [("b", (5, 6))])

    def test_hung_again_it_hangs_last(self):
        made = tower_of([("a", 1, 4), ("b", 2, 5), ("c", 3, 6)])
        made.take("a")
        made.hang("a", 7)
        self.assertEqual(made.bells(), [("b", (2, 5)), ("c", (3, 6)), ("a", (7, 24))])
        self.refused(Twice, made.hang, "a", 1, 4)
        made.take("a")
        made.hang("a", 1, 4)
        made.take("c")
        made.hang("c", 3, 6)
        self.assertEqual(made.bells(), [("b", (2, 5)), ("a", (1, 4)), ("c", (3, 6))])

    def test_the_order_is_not_that_of_the_letters(self):
        made = tower_of([("m", 0, 2), ("z", 0, 2), ("a", 0, 2)])
        self.assertEqual([name for name, one in made.bells()], ["m", "z", "a"])
        self.assertEqual(made.next_any(), (0, ["m", "z", "a"]))

    def test_bells_are_tuples_in_a_list(self):
        told = tower_of([("a", 9, 4), ("b", -1, 6)]).bells()
        self.assertIs(type(told), list)
        for bell in told:
            self.assertIs(type(bell), tuple)
            self.assertEqual(len(bell), 2)
            self.assertTrue(is_beat(bell[1]))


class NextTogether(Refusals):

    def test_of_no_bells_the_moment_itself(self):
        made = Tower()
        self.assertEqual(made.next_together(), 0)
        for moment in [0, 1, -1, 17, -17, GREATEST, -GREATEST]:
            self.assertEqual(made.next_together(moment), moment)
            self.assertEqual(made.next_together(moment=moment), moment)

    def test_against_steps(self):
        made = tower_of([("a", 1, 4), ("b", 3, 6), ("c", -1, 5)])
        both = [moment for moment in range(-300, 300) if moment % 4 == 1 and moment % 6 == 3 and moment % 5 == 4]
        for moment in range(-200, 200):
            told = made.next_together(moment)
            self.assertTrue(is_whole(told))
            self.assertEqual(told, min(one for one in both if one >= moment))

    def test_written_out(self):
        made = tower_of([("a", 1, 3), ("b", 2, 5)])
        self.assertEqual(made.next_together(), 7)
        self.assertEqual(made.next_together(7), 7)
        self.assertEqual(made.next_together(8), 22)
        self.assertEqual(made.next_together(moment=-8), -8)
        self.assertEqual(made.next_together(-7), 7)
        self.assertEqual(made.next_together(-9), -8)

    def test_of_one_bell(self):
        made = tower_of([("a", 5, 24)])
        self.assertEqual(made.next_together(), 5)
        self.assertEqual(made.next_together(6), 29)
        self.assertEqual(made.next_together(-19), -19)

    def check_clash(self, made, first, second, divisor, *moment):
        error = self.refused(Clash, made.next_together, *moment)
        self.assertEqual((error.first, error.second, error.divisor), (first, second, divisor))
        self.assertTrue(is_whole(error.divisor))

    def test_two_bells_that_clash(self):
        made = tower_of([("tenor", 0, 4), ("treble", 1, 6)])
        for moment in [(), (0,), (1,), (-9,), (GREATEST,)]:
            self.check_clash(made, "tenor", "treble", 2, *moment)
        self.assertEqual(made.bells(), [("tenor", (0, 4)), ("treble", (1, 6))])

    def test_the_pair_is_that_of_the_list(self):
        # The pairs z and b, y and a clash: the second has the lesser j, though the greater i.
        self.check_clash(tower_of([("z", 0, 4), ("y", 0, 9), ("a", 1, 3), ("b", 1, 2)]), "y", "a", 3)
        self.check_clash(tower_of([("d", 0, 6), ("c", 1, 6), ("b", 2, 6), ("a", 3, 6)]), "d", "c", 6)

    def test_bells_are_numbered_in_their_order_now(self):
        made = tower_of([("a", 0, 6), ("b", 1, 4), ("c", 0, 5)])
        self.check_clash(made, "a", "b", 2)
        made.take("a")
        self.assertEqual(made.next_together(), 5)
        made.hang("a", 0, 6)
        self.check_clash(made, "b", "a", 2)
        made.take("b")
        self.assertEqual(made.next_together(1), 30)

    def test_by_chance_as_the_list_is(self):
        chance = random.Random(41)
        for turn in range(300):
            bells = [(name, chance.randrange(-40, 40), chance.randrange(1, 9)) for name in names_of(4)]
            made = tower_of(bells)
            told = together([(first % gap, gap) for name, first, gap in bells])
            with self.subTest(bells=bells):
                if told[0] == "clash":
                    self.check_clash(made, bells[told[1]][0], bells[told[2]][0], told[3])
                else:
                    moment = made.next_together(-7)
                    self.assertTrue(-7 <= moment < -7 + told[1][1])
                    self.assertTrue(all((moment - first) % gap == 0 for name, first, gap in bells))

    def test_sixty_bells_of_many_figures(self):
        gaps = [power_below_greatest(prime) for prime in primes(60)]
        whole = math.prod(gaps)
        made = tower_of([(name, rest, gap) for name, (rest, gap) in zip(names_of(60), at(10 ** 59 + 7, gaps))])
        self.assertEqual(made.next_together(), 10 ** 59 + 7)
        self.assertEqual(made.next_together(10 ** 59 + 7), 10 ** 59 + 7)
        self.assertEqual(made.next_together(10 ** 59 + 8), 10 ** 59 + 7 + whole)
        self.assertEqual(made.next_together(-GREATEST), 10 ** 59 + 7)
        made.take("ab")
        made.hang("ab", 10 ** 59 + 8, gaps[0])
        self.check_clash(made, "aa", "ab", gaps[0])


class NextAny(Refusals):

    def test_of_no_bells_is_refused(self):
        made = Tower()
        self.refused(NoBell, made.next_any)
        self.refused(NoBell, made.next_any, 7)
        made.hang("a", 1, 2)
        made.take("a")
        self.refused(NoBell, made.next_any, -7)
        self.assertEqual(made.bells(), [])

    def test_against_steps(self):
        bells = [("m", 1, 4), ("a", 3, 6), ("z", 4, 9), ("b", 5, 12)]
        made = tower_of(bells)
        for moment in range(-80, 80):
            told = made.next_any(moment)
            self.assertIs(type(told), tuple)
            self.assertEqual(len(told), 2)
            self.assertTrue(is_whole(told[0]))
            self.assertIs(type(told[1]), list)
            now = moment
            ringing = []
            while not ringing:
                ringing = [name for name, first, gap in bells if (now - first) % gap == 0]
                now += 1
            self.assertEqual(told, (now - 1, ringing))

    def test_written_out(self):
        made = tower_of([("b", 2, 5), ("a", 1, 3)])
        self.assertEqual(made.next_any(), (1, ["a"]))
        self.assertEqual(made.next_any(0), (1, ["a"]))
        self.assertEqual(made.next_any(2), (2, ["b"]))
        self.assertEqual(made.next_any(5), (7, ["b", "a"]))
        self.assertEqual(made.next_any(moment=7), (7, ["b", "a"]))
        self.assertEqual(made.next_any(-8), (-8, ["b", "a"]))
        self.assertEqual(made.next_any(-7), (-5, ["a"]))

    def test_from_nought_where_no_moment_is_told(self):
        made = tower_of([("a", -1, 5), ("b", 0, 7), ("c", 1, 9)])
        self.assertEqual(made.next_any(), (0, ["b"]))
        self.assertEqual(made.next_any(-1), (-1, ["a"]))

    def test_bells_that_clash(self):
        made = tower_of([("a", 0, 4), ("b", 1, 6), ("c", 0, 4)])
        self.assertEqual(made.next_any(), (0, ["a", "c"]))
        self.assertEqual(made.next_any(1), (1, ["b"]))

    def test_hung_again_it_is_named_last(self):
        made = tower_of([("a", 0, 4), ("b", 0, 6)])
        made.take("a")
        made.hang("a", 0, 4)
        self.assertEqual(made.next_any(), (0, ["b", "a"]))

    def test_sixty_bells_of_many_figures(self):
        bells = [(name, 10 ** 58 + number // 2, 10 ** 59 + number) for number, name in enumerate(names_of(60))]
        made = tower_of(bells)
        self.assertEqual(made.next_any(), (10 ** 58, ["aa", "ab"]))
        self.assertEqual(made.next_any(10 ** 58 + 1), (10 ** 58 + 1, ["ac", "ad"]))
        moment, names = made.next_any(-GREATEST)
        self.assertEqual(moment, min(first - (first + GREATEST) // gap * gap for name, first, gap in bells))
        self.assertTrue(is_list_of_wholes([moment], 1))
        self.assertEqual(names, [name for name, first, gap in bells if (moment - first) % gap == 0])


class TwoTowers(Refusals):

    def test_they_know_nothing_of_one_another(self):
        one = tower_of([("a", 1, 4)])
        other = Tower()
        self.assertEqual(other.bells(), [])
        other.hang("a", 2, 5)
        other.hang("b", 3, 7)
        self.assertEqual(one.bells(), [("a", (1, 4))])
        self.refused(NoName, one.take, "b")
        self.assertEqual(other.take("a"), (2, 5))
        self.assertEqual(one.bells(), [("a", (1, 4))])
        self.assertEqual(one.next_any(), (1, ["a"]))
        self.assertEqual(other.next_any(), (3, ["b"]))
        self.assertEqual(one.next_together(2), 5)
        self.assertEqual(other.next_together(4), 10)


if __name__ == "__main__":
    unittest.main()
