"""Numbers of twos: tuples (m, e) that stand for m times 2 to the power e."""

from oncenear.errors import NoNumber
from oncenear.wholes import is_whole, sign_of


def is_number(thing):
    """Tell of anything whether it is a number: m odd, or nought as (0, 0)."""
    if not isinstance(thing, tuple) or len(thing) != 2:
        return False
    m, e = thing
    if not is_whole(m) or not is_whole(e):
        return False
    return m & 1 == 1 or (m == 0 and e == 0)


def need_number(thing):
    """Refuse with NoNumber what is no number."""
    if not is_number(thing):
        raise NoNumber("a number (m, e) with an odd m, or (0, 0), is needed")


def number_of(m, e=0):
    """The number m times 2 ** e."""
    if not is_whole(m) or not is_whole(e):
        raise NoNumber("two whole numbers are needed")
    if m == 0:
        return (0, 0)
    noughts = (m & -m).bit_length() - 1
    return (m >> noughts, e + noughts)


def negated(number):
    """Nought less the number."""
    return (-number[0], number[1])


def plus(one, other):
    """The sum of two numbers."""
    need_number(one)
    need_number(other)
    e = min(one[1], other[1])
    return number_of(floor_at(one, e) + floor_at(other, e), e)


def less(one, other):
    """One less the other."""
    need_number(one)
    need_number(other)
    return plus(one, negated(other))


def times(one, other):
    """The product of two numbers."""
    need_number(one)
    need_number(other)
    return number_of(one[0] * other[0], one[1] + other[1])


def order_of(one, other):
    """-1, 0 or 1, as one is less than, the same as, or greater than other."""
    need_number(one)
    need_number(other)
    rank, other_rank = rank_of(one), rank_of(other)
    if rank != other_rank:
        return 1 if rank > other_rank else -1
    # Of like size, they are brought to one exponent by a shift that is no longer than an m.
    return sign_of(less(one, other)[0])


def rank_of(number):
    """The sign and the size of a number, so that ranks that differ are in the order of the numbers."""
    sign = sign_of(number[0])
    return (sign, sign * size_of(number))


def least_of(numbers):
    """The least one of a list of one number or more."""
    least = numbers[0]
    for number in numbers:
        if order_of(number, least) < 0:
            least = number
    return least


def greatest_of(numbers):
    """The greatest one of a list of one number or more."""
    return negated(least_of([negated(number) for number in numbers]))


def size_of(number):
    """The k for which a number other than nought is from 2 ** k on, below 2 ** (k + 1), in size."""
    return number[0].bit_length() - 1 + number[1]


def floor_at(number, power):
    """The greatest whole number that times 2 ** power is no greater than the number."""
    m, e = number
    if e >= power:
        return m << (e - power)
    return m >> (power - e)


def ceiling_at(number, power):
    """The least whole number that times 2 ** power is no less than the number."""
    return -floor_at(negated(number), power)
