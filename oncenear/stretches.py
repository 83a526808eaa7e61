"""Stretches between two numbers, and reckoning with them."""

from oncenear.dots import added, ceiling_at, compared, floor_at, greater, lesser, lowered, multiplied
from oncenear.dots import need_number, need_numbers, negated
from oncenear.errors import NoStretch
from oncenear.wholes import ceiling_root, floor_root, need_whole_within

MOST_BITS = 800


class Stretch:
    """All numbers from low to high, both among them."""

    def __init__(self, low, high):
        need_numbers(low, high)
        if compared(low, high) > 0:
            raise NoStretch("low is greater than high")
        self.low = low
        self.high = high

    def __eq__(self, other):
        return isinstance(other, Stretch) and self.low == other.low and self.high == other.high

    def __repr__(self):
        return f"Stretch({self.low!r}, {self.high!r})"

    def holds(self, number):
        """Whether the number is no less than low and no greater than high."""
        need_number(number)
        return compared(self.low, number) <= 0 and compared(number, self.high) <= 0

    def width(self):
        """High less low."""
        return added(self.high, negated(self.low))

    def common(self, other):
        """The stretch that both have in common, or None."""
        need_stretch(other)
        low = greater(self.low, other.low)
        high = lesser(self.high, other.high)
        return None if compared(low, high) > 0 else Stretch(low, high)

    def within(self, other):
        """Whether all of this stretch lies within the other one."""
        need_stretch(other)
        return compared(other.low, self.low) <= 0 and compared(self.high, other.high) <= 0


def need_stretch(thing):
    """Refuse with NoStretch what is no stretch."""
    if not isinstance(thing, Stretch):
        raise NoStretch("a stretch is needed")


def sum_of(one, other):
    """The least stretch that holds all sums of a number of the one and one of the other."""
    need_stretch(one)
    need_stretch(other)
    return Stretch(added(one.low, other.low), added(one.high, other.high))


def product_of(one, other):
    """The least stretch that holds all products of a number of the one and one of the other."""
    need_stretch(one)
    need_stretch(other)
    a, b, c, d = one.low, one.high, other.low, other.high
    # Least and greatest products are those of ends: of which ends, the signs tell, but where both hold both signs.
    if a[0] >= 0:
        return Stretch(multiplied(a if c[0] >= 0 else b, c), multiplied(b if d[0] >= 0 else a, d))
    if b[0] <= 0:
        return Stretch(multiplied(a if d[0] >= 0 else b, d), multiplied(a if c[0] <= 0 else b, c))
    if c[0] >= 0:
        return Stretch(multiplied(a, d), multiplied(b, d))
    if d[0] <= 0:
        return Stretch(multiplied(b, c), multiplied(a, c))
    return Stretch(lesser(multiplied(a, d), multiplied(b, c)), greater(multiplied(a, c), multiplied(b, d)))


def quotient_of(one, other, *, bits):
    """The least stretch with ends that are whole numbers by 2 ** bits that holds all quotients."""
    need_stretch(one)
    need_stretch(other)
    if other.low[0] <= 0 <= other.high[0]:
        raise NoStretch("the divisor holds 0")
    need_whole_within(bits, 0, MOST_BITS)
    low, high, least, most = one.low, one.high, other.low, other.high
    if most[0] < 0:
        low, high, least, most = negated(high), negated(low), negated(most), negated(least)
    # The divisors are above 0 now: the greater one makes a quotient the nearer to 0.
    low = floor_quotient(low, most if low[0] >= 0 else least, bits)
    high = -floor_quotient(negated(high), least if high[0] >= 0 else most, bits)
    return Stretch(lowered(low, -bits), lowered(high, -bits))


def floor_quotient(one, other, bits):
    """The greatest whole number that by 2 ** bits is no greater than one by other."""
    shift = one[1] - other[1] + bits
    if shift < 0:
        return one[0] // (other[0] << -shift)
    return (one[0] << shift) // other[0]


def root_of(one, *, bits):
    """The least stretch with ends that are whole numbers by 2 ** bits that holds all roots from nought on."""
    need_stretch(one)
    if one.low[0] < 0:
        raise NoStretch("there is no root of a number below 0")
    need_whole_within(bits, 0, MOST_BITS)
    low = floor_root(floor_at(one.low, -2 * bits))
    high = ceiling_root(ceiling_at(one.high, -2 * bits))
    return Stretch(lowered(low, -bits), lowered(high, -bits))
