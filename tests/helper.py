"""What the tests share: the kinds of told values, and numbers of many figures."""

GREATEST = 10 ** 60 - 1

LARGE = [
    GREATEST,
    10 ** 59,
    2 ** 199,
    3 ** 125,
    7 ** 70,
    6 ** 77,
    10 ** 30 + 57,
    2 ** 64,
    2 ** 53 + 1,
]


def is_whole(value):
    return type(value) is int


def is_beat(value):
    return (
        type(value) is tuple
        and len(value) == 2
        and is_whole(value[0])
        and is_whole(value[1])
        and 0 <= value[0] < value[1]
    )


def far(gap):
    """How many gaps a moment of a beat may lie off and still have at most sixty figures."""
    return GREATEST // gap - 1


def moments(first, gap, low, high):
    """The moments from low to below high that lie a whole number of gaps from first, by steps alone."""
    found = []
    moment = first
    while moment >= low:
        moment -= gap
    while moment < high:
        if moment >= low:
            found.append(moment)
        moment += gap
    return found
