"""What the tests share: the kinds of told values, and numbers of many figures."""

GREATEST = 10 ** 60 - 1

LARGE = [
    GREATEST,
    10 ** 59,
    2 ** 199,
    3 ** 125,
    7 ** 70,
    6 ** 77,
    10 ** 30 + 57,
    2 ** 64,
    2 ** 53 + 1,
]


def is_whole(value):
    return type(value) is int


def is_beat(value):
    return (
        type(value) is tuple
        and len(value) == 2
        and is_whole(value[0])
        and is_whole(value[1])
        and 0 <= value[0] < value[1]
    )


def far(gap):
    """How many gaps a moment of a beat may lie off and still have at most sixty figures."""
    return GREATEST // gap - 1


def moments(first, gap, low, high):
    """The moments from low to below high that lie a whole number of gaps from first, by steps alone."""
    found = []
    moment = first
    while moment >= low:
        moment -= gap
    while moment < high:
        if moment >= low:
            found.append(moment)
        moment += gap
    return found


def all_beats(greatest):
    """Every beat with a gap from 1 to the greatest one."""
    return [(rest, gap) for gap in range(1, greatest + 1) for rest in range(gap)]


def is_list_of_wholes(value, length):
    return type(value) is list and len(value) == length and all(is_whole(number) for number in value)


def heard(one, low, high):
    """The set of moments from low to below high at which a beat rings, by steps alone."""
    return set(moments(one[0], one[1], low, high))


def at(moment, gaps):
    """Beats with these gaps that all ring at the moment."""
    return [(moment % gap, gap) for gap in gaps]


def primes(many):
    found = []
    number = 2
    while len(found) < many:
        if all(number % prime != 0 for prime in found):
            found.append(number)
        number += 1
    return found


def power_below_greatest(number):
    """The greatest power of a number that has at most sixty figures."""
    power = number
    while power * number <= GREATEST:
        power *= number
    return power
