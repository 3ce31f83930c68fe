"""Beats over others and apart: which moments hold others, and which are left over."""

from knell.beats import beat, rings
from knell.errors import NoBell, TooMany
from knell.meets import common_gap, met
from knell.wholes import weights_of_all

MOST_BEATS = 60
LONGEST_ROLL = 1000


def under(one, other):
    return one[1] % other[1] == 0 and rings(other, one[0])


def least(beats):
    if len(beats) == 0:
        raise NoBell("no beat lies over no beats")
    first = beats[0][0]
    gaps = [one[1] for one in beats]
    # A beat has all moments of the others just where its gap goes into their gaps
    # and into the ways between their rests.
    found = weights_of_all(gaps + [one[0] - first for one in beats])
    return (beat(first, found[0]), found[1][:len(gaps)], found[1][len(gaps):])


def less(one, other):
    both = met(one, other)
    if both is None:
        return [one]
    many = both[1] // one[1]
    if many > MOST_BEATS:
        raise TooMany(f"the gap of both is more than {MOST_BEATS} times the gap of the one")
    rests = [one[0] + k * one[1] for k in range(many)]
    return [(rest, both[1]) for rest in rests if rest != both[0]]


def roll(beats):
    gap = common_gap(beats)
    if gap > LONGEST_ROLL:
        raise TooMany(f"the common gap is above {LONGEST_ROLL}")
    return [first_ringing(beats, moment) for moment in range(gap)]


def first_ringing(beats, moment):
    for number, one in enumerate(beats):
        if rings(one, moment):
            return number
    return None


def silent(beats):
    # All moments are as those of the roll, so what isn't silent there is so nowhere.
    for moment, number in enumerate(roll(beats)):
        if number is None:
            return moment
    return None
