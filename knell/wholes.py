"""Whole numbers: what goes into both of two, with weights that show it."""


def weights(one, other):
    # Both rows (d, u, v) keep u * one + v * other == d, and the numbers that go
    # into both d's stay the same; so where one d is 0, the other d is the greatest
    # of them, but for its sign.
    upper = (one, 1, 0)
    lower = (other, 0, 1)
    while lower[0] != 0:
        left = less_times(upper, lower, upper[0] // lower[0])
        upper = lower
        lower = left
    if upper[0] < 0:
        return (-upper[0], -upper[1], -upper[2])
    return upper


def less_times(row, other, many):
    return (row[0] - many * other[0], row[1] - many * other[1], row[2] - many * other[2])
