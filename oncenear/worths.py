"""Worths of the functions, by three methods."""

from oncenear.by_halves import worth_by_halves
from oncenear.by_series import worth_by_series
from oncenear.by_steps import worth_by_steps
from oncenear.dots import lowered, need_number
from oncenear.kept import Kept
from oncenear.places import need_place
from oncenear.stretches import Stretch
from oncenear.wholes import floor_root, need_whole_within
from oncenear.words import FUNCTIONS, METHODS, need_word

MOST_BITS = 600


def worth_bounds(word, number, *, bits, by="series"):
    """A stretch that holds the function's worth at the number, no wider than 2 ** -bits."""
    return worth_bounds_from(Kept(), word, number, bits, by)


def is_exact(word, number):
    """Whether the worth is a number of twos."""
    return exact_worth(word, number) is not None


def exact_worth(word, number):
    """The worth where it is a number of twos, or None."""
    need_word(word, FUNCTIONS)
    need_number(number)
    need_place(word, number)
    return exact_at(word, number)


def exact_at(word, number):
    """What exact_worth tells of a place."""
    if word == "root":
        return exact_root(number)
    if word == "log":
        return (0, 0) if number == (1, 0) else None
    if number != (0, 0):
        return None
    return (1, 0) if word in ("exp", "cos") else (0, 0)


def exact_root(number):
    """The root of a number from 0 on where it is a number, or None."""
    m, e = number
    if e & 1:
        return None
    root = floor_root(m)
    return (root, e >> 1) if root * root == m else None


def worth_bounds_from(kept, word, number, bits, by):
    """What worth_bounds tells, with what is kept already."""
    need_word(word, FUNCTIONS)
    need_word(by, METHODS)
    need_number(number)
    need_whole_within(bits, 0, MOST_BITS)
    need_place(word, number)
    exact = exact_at(word, number)
    if exact is not None:
        return Stretch(exact, exact)
    low, high, power = ends_of_worth(word, number, bits, by, kept)
    return Stretch(lowered(low, power), lowered(high, power))


def ends_of_worth(word, number, bits, by, kept):
    """Low, high and power: a worth that isn't exact lies between low and high times 2 ** power, 2 ** -bits apart."""
    power = -bits - 2
    asked = bits
    while True:
        low, high, fine = reckoned(word, number, asked, by, kept)
        low, high = low >> (power - fine), -(-high >> (power - fine))
        # The methods reckon to so many bits that this is so at once; but it is promised, so it is looked at.
        if high - low <= 4:
            return low, high, power
        asked += 8


def reckoned(word, number, bits, by, kept):
    """Low, high and power of a worth by a method."""
    if by == "series":
        return worth_by_series(word, number, bits, kept)
    if by == "steps":
        return worth_by_steps(word, number, bits, kept)
    return worth_by_halves(word, number, bits, kept)
