"""Worths by series: what is left of a number goes straight into a power series.

Each function here tells low, high and power: the worth lies between low and high times 2 ** power.
"""

from oncenear.dots import floor_at
from oncenear.shares import depth_for, eighths_and_ratio, ends_around, log_of_twos, turns_taken
from oncenear.shares import twos_and_ratio, twos_in_power, twos_taken, units_of
from oncenear.sums import cosine_of, odd_sum, power_of_e, sine_of
from oncenear.wholes import floor_root


def root_by_series(number, bits, kept):
    """The root, by the series of (1 + gap) ** (1 / 2) about a root of the first bits."""
    depth = bits + 4
    whole = floor_at(number, -2 * depth)
    cut = max(whole.bit_length() - 64, 0) // 2
    near = floor_root(whole >> (2 * cut)) << cut
    if cut == 0:
        return near, near + 1, -depth
    finer = near.bit_length() + 16
    square = near * near
    factor, off = half_power_sum(units_of(whole - square, square, finer), finer)
    # One more, as the number may be beyond the whole one, and another for the floor.
    return near * (factor - off) >> finer, (near * (factor + off) >> finer) + 2, -depth


def half_power_sum(gap, depth):
    """The root of 1 + gap, gap from 0 to 2 ** -20, in units, and by how much it may be off."""
    total = 1 << depth
    term = gap >> 1
    sign = 1
    j = 1
    while term:
        total += sign * term
        term = (term * gap >> depth) * (2 * j - 1) // (2 * j + 2)
        sign = -sign
        j += 1
    # Each term is off by less than 3, and those left out are less than 1 together.
    return total, 3 * j + 2


def exp_by_series(number, bits, kept):
    """The power of e, 2 to a power taken out."""
    depth = depth_for(bits + twos_in_power(number))
    twos, rest = twos_taken(number, depth, kept)
    power, off = power_of_e(rest, depth)
    return ends_around(power, off + 4, twos - depth)


def log_by_series(number, bits, kept):
    """The logarithm, by twice the sum of z ** k by k over odd k, z being (x - 1) by (x + 1)."""
    depth = depth_for(bits)
    twos, top, bottom = twos_and_ratio(number)
    half, off = odd_sum(units_of(abs(top - bottom), top + bottom, depth), depth, 1)
    if top < bottom:
        half = -half
    return ends_around(2 * half + log_of_twos(twos, depth, kept), 2 * off + 5, -depth)


def sin_by_series(number, bits, kept):
    """The sine."""
    return wave_by_series(number, bits, kept, 0)


def cos_by_series(number, bits, kept):
    """The cosine: the sine of what is a quarter turn ahead."""
    return wave_by_series(number, bits, kept, 1)


def wave_by_series(number, bits, kept, ahead):
    """The sine of what is so many quarter turns ahead of a number."""
    depth = depth_for(bits)
    turns, rest = turns_taken(number, depth, kept)
    turns += ahead
    if turns & 1:
        worth, off = cosine_of(abs(rest), depth)
    else:
        worth, off = sine_of(abs(rest), depth)
        worth = worth if rest >= 0 else -worth
    return ends_around(-worth if turns & 2 else worth, off + 3, -depth)


def arc_by_series(number, bits, kept):
    """The arc, by the sum of x ** k by k over odd k, the signs by turns."""
    depth = depth_for(bits)
    eighths, top, bottom = eighths_and_ratio(number)
    arc, off = odd_sum(units_of(abs(top), bottom, depth), depth, -1)
    if top < 0:
        arc = -arc
    if eighths:
        arc += eighths * kept.pi_at(depth) >> 2
    return ends_around(arc if number[0] > 0 else -arc, off + 4, -depth)


FUNCTIONS_BY_SERIES = {"root": root_by_series, "exp": exp_by_series, "log": log_by_series,
                       "sin": sin_by_series, "cos": cos_by_series, "arc": arc_by_series}


def worth_by_series(word, number, bits, kept):
    """Low, high and power of the function that the word names."""
    reckon = FUNCTIONS_BY_SERIES[word]
    return reckon(number, bits, kept)
