"""Bounds of pi and of the logarithm of 2."""

from oncenear.dots import lowered
from oncenear.stretches import Stretch
from oncenear.sums import floor_units, inverse_sum
from oncenear.wholes import need_whole_within
from oncenear.words import need_word

MOST_BITS = 1600

# Each way is a sum of so many times the arc of 1 by n, or half the logarithm of (n + 1) by (n - 1).
PI_WAYS = {"five": ((16, 5), (-4, 239)), "eighteen": ((48, 18), (32, 57), (-20, 239))}
LOG_TWO_WAYS = {"three": ((2, 3),), "twentysix": ((18, 26), (-2, 4801), (8, 8749))}


def pi_bounds(bits, *, by="five"):
    """A stretch that holds pi, no wider than 2 ** -bits."""
    need_word(by, tuple(PI_WAYS))
    need_whole_within(bits, 0, MOST_BITS)
    return stretch_of_sum(PI_WAYS[by], bits, -1)


def log_two_bounds(bits, *, by="three"):
    """A stretch that holds the logarithm of 2, no wider than 2 ** -bits."""
    need_word(by, tuple(LOG_TWO_WAYS))
    need_whole_within(bits, 0, MOST_BITS)
    return stretch_of_sum(LOG_TWO_WAYS[by], bits, 1)


def pi_units(depth):
    """The greatest whole number of units 2 ** -depth that is no greater than pi."""
    return floor_units(lambda finer: weighed_sum(PI_WAYS["five"], finer, -1), depth)


def log_two_units(depth):
    """The greatest whole number of units 2 ** -depth that is no greater than the logarithm of 2."""
    return floor_units(lambda finer: weighed_sum(LOG_TWO_WAYS["three"], finer, 1), depth)


def stretch_of_sum(parts, bits, turn):
    """The stretch around a sum of parts, no wider than 2 ** -bits."""
    depth = bits + 2
    guard = depth.bit_length() + 12
    total, off = weighed_sum(parts, depth + guard, turn)
    # The sum is known to half a unit to each side, so that rounded outward the ends are at most 3 units apart.
    low = (total - off) >> guard
    high = -(-(total + off) >> guard)
    return Stretch(lowered(low, -depth), lowered(high, -depth))


def weighed_sum(parts, depth, turn):
    """The sum of so many times each inverse sum, in units of 2 ** -depth, and by how many it may be off."""
    total = 0
    off = 0
    for times_taken, n in parts:
        part, part_off = inverse_sum(n, depth, turn)
        total += times_taken * part
        off += abs(times_taken) * part_off
    return total, off
