"""Sums of the series that all methods end in.

They are told in units, the unit being 2 ** -depth, with by how many units they may be off.
"""


def floor_units(reckon, depth):
    """The greatest whole number of units that is no greater than what reckon tells at any depth, with its off.

    What is kept is told so, as a deeper one, cut, is then the very same: no answer hangs on what was asked ahead.
    """
    guard = depth.bit_length() + 12
    while True:
        total, off = reckon(depth + guard)
        units = (total - off) >> guard
        if units == (total + off) >> guard:
            return units
        # That ends, as none of what is kept is a number of twos.
        guard *= 2


def inverse_sum(n, depth, turn):
    """The sum of 1 by (k times n ** k) over odd k, n from 3 on; the signs by turns where turn is -1, all + where 1."""
    power = (1 << depth) // n
    square = n * n
    total = power
    sign = turn
    k = 1
    while power:
        power //= square
        k += 2
        total += sign * (power // k)
        sign *= turn
    # Each of the (k + 1) // 2 terms is off by less than 1, and those left out are less than 1 together.
    return total, k + 2


def odd_sum(x, depth, turn):
    """The sum of x ** k by k over odd k, x from 0 to a half, in units; the signs by turns where turn is -1."""
    square = x * x >> depth
    total = power = x
    sign = turn
    k = 1
    while power:
        power = power * square >> depth
        k += 2
        total += sign * (power // k)
        sign *= turn
    # Off by less than d, a power makes the next one off by less than 1 / 2 + d / 4 + 1: so by less than 2 always,
    # a term by less than 2 / 3 + 1, and those left out are less than 1 together.
    return total, k + 2


def factorial_sum(first, k, square, depth, turn):
    """The sum of first times k! by (k + 2 j)! times square ** j over j from 0 on, in units, none of them above 1.

    The signs are by turns where turn is -1, all + where 1; first may be off by 1.
    """
    total = term = first
    sign = turn
    while term:
        term = (term * square >> depth) // ((k + 1) * (k + 2))
        k += 2
        total += sign * term
        sign *= turn
    # Off by less than d, a term makes the next one off by less than (1 + d) / 2 + 1: so by less than 3 always,
    # there are at most k // 2 + 1 of them, and those left out are less than 1 together.
    return total, 2 * k + 6


def sine_of(x, depth):
    """The sine of x, which is from 0 to 1, in units."""
    return factorial_sum(x, 1, x * x >> depth, depth, -1)


def cosine_of(x, depth):
    """The cosine of x, which is from 0 to 1, in units."""
    return factorial_sum(1 << depth, 0, x * x >> depth, depth, -1)


def power_of_e(x, depth):
    """The power of e of x, which is from -1 to 1, in units."""
    square = x * x >> depth
    even, even_off = factorial_sum(1 << depth, 0, square, depth, 1)
    odd, odd_off = factorial_sum(abs(x), 1, square, depth, 1)
    return even + (odd if x >= 0 else -odd), even_off + odd_off


def shift_sum(i, depth, stride):
    """The sum of 2 ** (-i k) by k over k from 1 on, stride apart, the signs by turns, + first, in units."""
    total = 0
    sign = 1
    k = 1
    while i * k <= depth:
        total += sign * ((1 << (depth - i * k)) // k)
        sign = -sign
        k += stride
    # Each term is off by less than 1, and those left out are less than 1 together.
    return total, k + 1
