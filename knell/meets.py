"""Beats together: the moments at which two or many of them ring, or which two never do."""

from knell.beats import beat
from knell.wholes import least_multiple, weights, weights_of_shares


def clash(one, other):
    shared = weights(one[1], other[1])[0]
    if (other[0] - one[0]) % shared == 0:
        return None
    return shared


def met(one, other):
    found = weights(one[1], other[1])
    apart = other[0] - one[0]
    if apart % found[0] != 0:
        return None
    # found[1] gaps of the one lead found[0] further, but for whole gaps of the other;
    # so these steps lead from the one's rest to a moment at which the other rings too.
    steps = apart // found[0] * found[1]
    return beat(one[0] + steps * one[1], least_multiple(one[1], other[1]))


def together(beats):
    common = (0, 1)
    for number, one in enumerate(beats):
        both = met(common, one)
        if both is None:
            return told_clash(beats, number)
        common = both
    return ("beat", common, weights_of_shares([each[1] for each in beats]))


def told_clash(beats, j):
    # Where beats ring all together but never with beat j, one of them alone clashes
    # with it; so there is such an i among those ahead of j.
    i = min([k for k in range(j) if clash(beats[k], beats[j]) is not None])
    return ("clash", i, j, clash(beats[i], beats[j]))


def common_gap(beats):
    gap = 1
    for one in beats:
        gap = least_multiple(gap, one[1])
    return gap
