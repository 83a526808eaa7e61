"""Stretches between two numbers, and reckoning with them."""

from oncenear.dots import ceiling_at, floor_at, greatest_of, least_of, less, need_number, negated, number_of
from oncenear.dots import order_of, plus, times
from oncenear.errors import NoStretch
from oncenear.wholes import ceiling_root, floor_root, need_whole_within

MOST_BITS = 800


class Stretch:
    """All numbers from low to high, both among them."""

    def __init__(self, low, high):
        need_number(low)
        need_number(high)
        if order_of(low, high) > 0:
            raise NoStretch("low is greater than high")
        self.low = low
        self.high = high

    def __eq__(self, other):
        return isinstance(other, Stretch) and self.low == other.low and self.high == other.high

    def __repr__(self):
        return f"Stretch({self.low!r}, {self.high!r})"

    def holds(self, number):
        """Whether the number is no less than low and no greater than high."""
        need_number(number)
        return order_of(self.low, number) <= 0 and order_of(number, self.high) <= 0

    def width(self):
        """High less low."""
        return less(self.high, self.low)

    def common(self, other):
        """The stretch that both have in common, or None."""
        need_stretch(other)
        low = greatest_of([self.low, other.low])
        high = least_of([self.high, other.high])
        return None if order_of(low, high) > 0 else Stretch(low, high)

    def within(self, other):
        """Whether all of this stretch lies within the other one."""
        need_stretch(other)
        return other.holds(self.low) and other.holds(self.high)


def need_stretch(thing):
    """Refuse with NoStretch what is no stretch."""
    if not isinstance(thing, Stretch):
        raise NoStretch("a stretch is needed")


def end_pairs(one, other):
    """The pairs of an end of the one and an end of the other: least and greatest worths lie there."""
    return [(first, second) for first in (one.low, one.high) for second in (other.low, other.high)]


def sum_of(one, other):
    """The least stretch that holds all sums of a number of the one and one of the other."""
    need_stretch(one)
    need_stretch(other)
    return Stretch(plus(one.low, other.low), plus(one.high, other.high))


def product_of(one, other):
    """The least stretch that holds all products of a number of the one and one of the other."""
    need_stretch(one)
    need_stretch(other)
    products = [times(first, second) for first, second in end_pairs(one, other)]
    return Stretch(least_of(products), greatest_of(products))


def quotient_of(one, other, *, bits):
    """The least stretch with ends that are whole numbers by 2 ** bits that holds all quotients."""
    need_stretch(one)
    need_stretch(other)
    if other.holds((0, 0)):
        raise NoStretch("the divisor holds 0")
    need_whole_within(bits, 0, MOST_BITS)
    pairs = end_pairs(one, other)
    low = min([floor_quotient(first, second, bits) for first, second in pairs])
    high = max([-floor_quotient(negated(first), second, bits) for first, second in pairs])
    return Stretch(number_of(low, -bits), number_of(high, -bits))


def floor_quotient(one, other, bits):
    """The greatest whole number that by 2 ** bits is no greater than one by other."""
    shift = one[1] - other[1] + bits
    if shift < 0:
        return one[0] // (other[0] << -shift)
    return (one[0] << shift) // other[0]


def root_of(one, *, bits):
    """The least stretch with ends that are whole numbers by 2 ** bits that holds all roots from nought on."""
    need_stretch(one)
    if one.low[0] < 0:
        raise NoStretch("there is no root of a number below 0")
    need_whole_within(bits, 0, MOST_BITS)
    low = floor_root(floor_at(one.low, -2 * bits))
    high = ceiling_root(ceiling_at(one.high, -2 * bits))
    return Stretch(number_of(low, -bits), number_of(high, -bits))
