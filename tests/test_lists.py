"""Lists that are handed in stay as they were, and those that are told are the asker's own."""

import unittest

from knell.covers import least, less, roll, silent
from knell.meets import common_gap, together
from knell.towers import Tower

LISTS = [
    [],
    [(2, 5)],
    [(1, 3), (2, 5)],
    [(0, 4), (1, 6), (3, 9)],
    [(5, 6), (2, 3), (5, 6), (1, 4)],
]


def told_lists(value):
    """The lists within a told value."""
    if type(value) is list:
        return [value]
    if type(value) is tuple:
        return [found for part in value for found in told_lists(part)]
    return []


class HandedIn(unittest.TestCase):

    def test_lists_stay_as_they_were(self):
        for asked in [together, common_gap, least, roll, silent]:
            for beats in LISTS:
                if beats or asked is not least:
                    handed = list(beats)
                    told = asked(handed)
                    with self.subTest(asked=asked.__name__, beats=beats):
                        self.assertEqual(handed, beats)
                        for found in told_lists(told):
                            self.assertIsNot(found, handed)

    def test_lists_stay_as_they_were_where_it_is_refused(self):
        handed = [(1, 7), (2, 11), (3, 13)]
        for asked in [roll, silent]:
            with self.assertRaises(ValueError):
                asked(handed)
            self.assertEqual(handed, [(1, 7), (2, 11), (3, 13)])


class Told(unittest.TestCase):

    def check(self, asked):
        """Emptying and filling what was told changes no later answer, nor does asking change it."""
        told = asked()
        kept = repr(told)
        asked()
        self.assertEqual(repr(told), kept)
        for found in told_lists(told):
            found.clear()
            found.append("x")
        again = asked()
        self.assertEqual(repr(again), kept)
        for found in told_lists(again):
            for other in told_lists(asked()):
                self.assertIsNot(found, other)

    def test_weights_and_rolls(self):
        for asked in [together, least, roll]:
            for beats in LISTS:
                if beats or asked is not least:
                    with self.subTest(asked=asked.__name__, beats=beats):
                        self.check(lambda: asked(beats))

    def test_what_is_left(self):
        for one, other in [((1, 2), (1, 4)), ((0, 4), (1, 6)), ((7, 8), (3, 4))]:
            with self.subTest(one=one, other=other):
                self.check(lambda: less(one, other))

    def test_weights_of_two_kinds_are_two_lists(self):
        found, gap_weights, rest_weights = least([(1, 3), (2, 5)])
        kept = list(rest_weights)
        gap_weights.clear()
        self.assertEqual(rest_weights, kept)

    def test_changing_the_list_handed_in_changes_nothing_told(self):
        beats = [(0, 4), (2, 6)]
        told = [together(beats), least(beats), roll(beats), less(beats[0], beats[1])]
        kept = repr(told)
        beats.clear()
        self.assertEqual(repr(told), kept)

    def test_bells_and_names(self):
        made = Tower()
        self.check(made.bells)
        made.hang("a", 1, 4)
        made.hang("b", 1, 6)
        self.check(made.bells)
        self.check(made.next_any)
        self.assertEqual(made.next_together(), 1)

    def test_bells_and_names_stay_when_the_tower_changes(self):
        made = Tower()
        none = made.bells()
        made.hang("a", 1, 4)
        made.hang("b", 1, 6)
        bells = made.bells()
        ringing = made.next_any()
        made.take("a")
        made.hang("c", 1, 3)
        made.next_any(5)
        self.assertEqual(none, [])
        self.assertEqual(bells, [("a", (1, 4)), ("b", (1, 6))])
        self.assertEqual(ringing, (1, ["a", "b"]))
        self.assertEqual(made.bells(), [("b", (1, 6)), ("c", (1, 3))])


if __name__ == "__main__":
    unittest.main()
