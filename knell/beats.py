"""Beats: tuples (rest, gap) that ring at the moments rest + k * gap for each whole number k."""

from knell.errors import NoBeat


def beat(first, gap):
    if gap < 1:
        raise NoBeat("a gap must be 1 or greater")
    return (first % gap, gap)


def rings(one, moment):
    return moment % one[1] == one[0]


def next_from(one, moment):
    return moment + (one[0] - moment) % one[1]


def how_many(one, low, high):
    if high <= low:
        return 0
    # (rest - m) // gap falls by one each time that m steps past a ring, so the
    # fall from low to high is the count; this holds below nought too, as // rounds down.
    return (one[0] - low) // one[1] - (one[0] - high) // one[1]


def moved(one, by):
    return beat(one[0] + by, one[1])


def times(one, by):
    # Times 0 the gap is 0, which beat refuses.
    return beat(one[0] * by, one[1] * abs(by))
