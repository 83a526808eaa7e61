"""Numbers of twos: tuples (m, e) that stand for m times 2 to the power e.

All else is reckoned with these, thousands of times for one answer: what is surely a number goes to added, multiplied
and compared, which don't look at that again.
"""

from oncenear.errors import NoNumber
from oncenear.wholes import is_whole

NUMBER_NEEDED = "a number (m, e) with an odd m, or (0, 0), is needed"


def is_number(thing):
    """Tell of anything whether it is a number: m odd, or nought as (0, 0)."""
    if not isinstance(thing, tuple) or len(thing) != 2:
        return False
    m, e = thing
    if not isinstance(m, int) or not isinstance(e, int) or e is True or e is False:
        return False
    if m & 1:
        return m is not True
    return m == 0 and e == 0 and m is not False


def need_number(thing):
    """Refuse with NoNumber what is no number."""
    if not is_number(thing):
        raise NoNumber(NUMBER_NEEDED)


def need_numbers(one, other):
    """Refuse with NoNumber where one of two is no number."""
    if not is_number(one) or not is_number(other):
        raise NoNumber(NUMBER_NEEDED)


def number_of(m, e=0):
    """The number m times 2 ** e."""
    if not is_whole(m) or not is_whole(e):
        raise NoNumber("two whole numbers are needed")
    return lowered(m, e)


def plus(one, other):
    """The sum of two numbers."""
    need_numbers(one, other)
    return added(one, other)


def less(one, other):
    """One less the other."""
    need_numbers(one, other)
    return added(one, (-other[0], other[1]))


def times(one, other):
    """The product of two numbers."""
    need_numbers(one, other)
    return multiplied(one, other)


def order_of(one, other):
    """-1, 0 or 1, as one is less than, the same as, or greater than other."""
    need_numbers(one, other)
    return compared(one, other)


def lowered(m, e):
    """The number m times 2 ** e, of whole numbers."""
    if m & 1:
        return (m, e)
    if m == 0:
        return (0, 0)
    noughts = (m & -m).bit_length() - 1
    return (m >> noughts, e + noughts)


def negated(number):
    """Nought less the number."""
    return (-number[0], number[1])


def added(one, other):
    """What plus tells, of numbers."""
    m, e = one
    n, f = other
    if e == f:
        return lowered(m + n, e)
    if m == 0:
        return other
    if n == 0:
        return one
    # One is even in units of the other's power, the other odd, so that the sum is odd.
    if e > f:
        return ((m << (e - f)) + n, f)
    return (m + (n << (f - e)), e)


def multiplied(one, other):
    """What times tells, of numbers."""
    m = one[0] * other[0]
    return (m, one[1] + other[1]) if m else (0, 0)


def compared(one, other):
    """What order_of tells, of numbers."""
    m, e = one
    n, f = other
    if e != f and m and n and (m > 0) == (n > 0):
        size, other_size = m.bit_length() + e, n.bit_length() + f
        if size != other_size:
            return 1 if (size > other_size) == (m > 0) else -1
        # Of like size, they are brought to one power by a shift that is no longer than an m.
        if e > f:
            m <<= e - f
        else:
            n <<= f - e
    if m == n:
        return 0
    return 1 if m > n else -1


def lesser(one, other):
    """The lesser one of two numbers."""
    return one if compared(one, other) <= 0 else other


def greater(one, other):
    """The greater one of two numbers."""
    return one if compared(one, other) >= 0 else other


def size_of(number):
    """The k for which a number other than nought is from 2 ** k on, below 2 ** (k + 1), in size."""
    return number[0].bit_length() - 1 + number[1]


def floor_at(number, power):
    """The greatest whole number that times 2 ** power is no greater than the number."""
    m, e = number
    if e >= power:
        return m << (e - power)
    return m >> (power - e)


def ceiling_at(number, power):
    """The least whole number that times 2 ** power is no less than the number."""
    return -floor_at(negated(number), power)
