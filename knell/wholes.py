"""Whole numbers: what goes into both of two, with weights that show it."""


def weights(one, other):
    # Both rows (d, u, v) keep u * one + v * other == d, and the numbers that go
    # into both d's stay the same; so where one d is 0, the other d is the greatest
    # of them, but for its sign.
    upper = (one, 1, 0)
    lower = (other, 0, 1)
    while lower[0] != 0:
        left = less_times(upper, lower, upper[0] // lower[0])
        upper = lower
        lower = left
    if upper[0] < 0:
        return (-upper[0], -upper[1], -upper[2])
    return upper


def less_times(row, other, many):
    return (row[0] - many * other[0], row[1] - many * other[1], row[2] - many * other[2])


def least_multiple(one, other):
    return one // weights(one, other)[0] * other


def weights_of_all(numbers):
    # The first number is from 1 on. Whole times it may be taken off every other weight,
    # as the first weight makes up for them; so no weight grows from step to step.
    shared = numbers[0]
    others = []
    for number in numbers[1:]:
        found = weights(shared, number)
        others = [found[1] * weight % numbers[0] for weight in others] + [found[2] % numbers[0]]
        shared = found[0]
    return (shared, with_first(numbers, others, shared))


def weights_of_shares(gaps):
    # Weights by which the shares common // gap add up to 1, common being the least
    # number that all gaps go into. With u * common + v * gap == d a further gap makes the
    # shares so far gap // d times as great and has the share common // d itself; so v
    # times the old weights, and u, add up to 1 again. Whole times its gap may be taken off
    # a weight, as that takes whole times common off, which the first weight makes up for.
    if len(gaps) == 0:
        return []
    common = gaps[0]
    others = []
    for gap in gaps[1:]:
        found = weights(common, gap)
        others = [found[2] * weight % own for weight, own in zip(others, gaps[1:])] + [found[1] % gap]
        common = common // found[0] * gap
    return with_first([common // gap for gap in gaps], others, 1)


def with_first(numbers, others, total):
    left = total - sum([weight * number for weight, number in zip(others, numbers[1:])])
    return [left // numbers[0]] + others
