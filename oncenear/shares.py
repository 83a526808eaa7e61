"""What is taken off a number ahead of the reckoning, so that what is left is small.

What is left is told in units of 2 ** -depth.
"""

from oncenear.dots import floor_at, size_of


def depth_for(bits):
    """How deep worths are reckoned that are asked for to so many bits: enough for what sums are off by."""
    bits = max(bits, 0)
    return bits + bits.bit_length() + 10


def turns_taken(number, depth, kept):
    """How many quarter turns there are nearest to an angle, and the rest, off by less than 2, at most pi by 4."""
    size = size_of(number)
    if size < -1:
        return 0, floor_at(number, -depth)
    # So much deeper, as pi is taken off up to 2 ** (size + 1) times.
    more = size + 3
    quarter = kept.pi_at(depth + more - 1)
    angle = floor_at(number, -(depth + more))
    many = (2 * angle + quarter) // (2 * quarter)
    return many, (angle - many * quarter) >> more


def twos_in_power(number):
    """About which power of two the power of e of a number is, to less than 2."""
    return floor_at((number[0] * 1477, number[1]), 10)


def twos_taken(number, depth, kept):
    """How many logarithms of 2 there are nearest to a number from -1000 to 1000, and the rest, off by less than 2."""
    if size_of(number) < -2:
        return 0, floor_at(number, -depth)
    more = 13
    two = kept.log_two_at(depth + more)
    whole = floor_at(number, -(depth + more))
    many = (2 * whole + two) // (2 * two)
    return many, (whole - many * two) >> more


def twos_and_ratio(number):
    """A number above 0 as a power of two times top by bottom, that from 0.7 to 1.42: the exponent, top, bottom."""
    m, e = number
    length = m.bit_length()
    if m << 8 < 181 << length:
        length -= 1
    return e + length, m, 1 << length


def log_of_twos(twos, depth, kept):
    """The logarithm of a power of two, off by less than 2."""
    if twos == 0:
        return 0
    more = twos.bit_length() + 1
    return twos * kept.log_two_at(depth + more) >> more


def ratio_of(number):
    """The size of a number as top and bottom."""
    m, e = number
    if e >= 0:
        return abs(m) << e, 1
    return abs(m), 1 << -e


def eighths_and_ratio(number):
    """How many eighth turns are nearest to the arc of a number's size, and the tangent of the rest: top, bottom."""
    top, bottom = ratio_of(number)
    if 5 * top > 12 * bottom:
        return 2, -bottom, top
    if 12 * top > 5 * bottom:
        return 1, top - bottom, top + bottom
    return 0, top, bottom


def units_of(top, bottom, depth):
    """Top by bottom in units of 2 ** -depth, off by less than 1."""
    return (top << depth) // bottom


def ends_around(worth, off, power):
    """Low, high and power: of all that is off by so much from a worth times 2 ** power."""
    return worth - off, worth + off, power
