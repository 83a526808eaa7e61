"""Worths by halves: the worth of a half, or of a half of a half, is soon told, and is doubled as often then.

Each function of a worth here tells low, high and power: the worth lies between low and high times 2 ** power.
"""

from oncenear.dots import floor_at, size_of
from oncenear.shares import depth_for, ends_around, log_of_twos, ratio_of, turns_taken
from oncenear.shares import twos_and_ratio, twos_in_power, units_of
from oncenear.sums import factorial_sum, odd_sum, power_of_e, sine_of
from oncenear.wholes import floor_root


def halvings(size, depth):
    """How often what is below 2 ** size is halved, so that a series soon ends."""
    return max(0, size + depth.bit_length())


def root_by_halves(number, bits, kept):
    """The root, by half the sum of a guess and what the number divided by it is."""
    depth = bits + 4
    root = root_of_means(floor_at(number, -2 * depth))
    return root, root + 1, -depth


def root_of_means(whole):
    """The greatest whole number whose square is no greater than whole."""
    if whole == 0:
        return 0
    # The means fall until they reach the root, if they begin above it.
    guess = 1 << ((whole.bit_length() + 1) // 2)
    nearer = (guess + whole // guess) >> 1
    while nearer < guess:
        guess = nearer
        nearer = (guess + whole // guess) >> 1
    return guess


def exp_by_halves(number, bits, kept):
    """The power of e: that of a small part, squared again and again."""
    depth = depth_for(bits + twos_in_power(number))
    many = halvings(size_of(number) + 1, depth)
    depth += many + 2
    size = (abs(number[0]), number[1] - many)
    power, off = power_of_e(floor_at(size, -depth), depth)
    power, twos, off = squared_again(power, off + 2, many, depth)
    if number[0] < 0:
        power = (1 << (2 * depth)) // power
        twos = -twos
        off = 2 * off + 2
    # What it is off by is counted in parts of what it should be, and that is below 3.
    return ends_around(power, 3 * off, twos - depth)


def squared_again(power, off, many, depth):
    """A power from 1 on, below 2, squared so many times, twos taken out; off in 2 ** -depth-th parts of it."""
    twos = 0
    for step in range(many):
        power = power * power >> depth
        twos *= 2
        if power >> (depth + 1):
            power >>= 1
            twos += 1
        off = 2 * off + (off * off >> depth) + 4
    return power, twos, off


def log_by_halves(number, bits, kept):
    """The logarithm: that of a root of a root, doubled as often."""
    depth = depth_for(bits)
    twos, top, bottom = twos_and_ratio(number)
    distance = units_of(abs(top - bottom), bottom, depth)
    many = halvings(distance.bit_length() - depth + 1, depth)
    depth += many + 2
    one = 1 << depth
    units = units_of(top, bottom, depth)
    for step in range(many):
        units = floor_root(units << depth)
    half, off = odd_sum(units_of(abs(units - one), units + one, depth), depth, 1)
    half <<= many + 1
    # A root is off by less than 1, and by half of what it was taken of.
    off = (off + 4) << (many + 1)
    if units < one:
        half = -half
    return ends_around(half + log_of_twos(twos, depth, kept), off + 2, -depth)


def sin_by_halves(number, bits, kept):
    """The sine."""
    return wave_by_halves(number, bits, kept, 0)


def cos_by_halves(number, bits, kept):
    """The cosine: the sine of what is a quarter turn ahead."""
    return wave_by_halves(number, bits, kept, 1)


def wave_by_halves(number, bits, kept, ahead):
    """The sine of what is so many quarter turns ahead of a number."""
    depth = depth_for(bits)
    many = halvings(min(0, size_of(number) + 1), depth)
    depth += many + 4
    turns, rest = turns_taken(number, depth, kept)
    turns += ahead
    sine, lack, off = doubled_again(abs(rest) >> many, many, depth)
    if turns & 1:
        worth = (1 << depth) - lack
    else:
        worth = sine if rest >= 0 else -sine
    return ends_around(-worth if turns & 2 else worth, off, -depth)


def doubled_again(angle, many, depth):
    """The sine and 1 less the cosine of an angle doubled so many times, and by how much they may be off."""
    square = angle * angle >> depth
    sine, sine_off = sine_of(angle, depth)
    lack, lack_off = factorial_sum(square >> 1, 2, square, depth, -1)
    off = sine_off + lack_off + 3
    for step in range(many):
        # They are 2 s (1 - l) and 2 s ** 2, so that off grows to 2 off and a part of it as great as the sine.
        grown = (off * (sine + off) >> (depth - 1)) + 4
        sine, lack = 2 * sine - (sine * lack >> (depth - 1)), sine * sine >> (depth - 1)
        off = 2 * off + grown
    return sine, lack, off


def arc_by_halves(number, bits, kept):
    """The arc: that of the tangent of a half, or of a half of a half, doubled as often."""
    depth = depth_for(bits)
    top, bottom = ratio_of(number)
    many = max(1, halvings(min(1, size_of(number) + 1), depth))
    depth += many + 2
    one = 1 << depth
    # The tangent of a half is t by (1 + the root of (1 + t ** 2)), or 1 by (1 / t + the root of (1 + 1 / t ** 2)).
    if top > bottom:
        inverse = units_of(bottom, top, depth)
        tangent = units_of(one, inverse + length_of(inverse, depth), depth)
    else:
        tangent = half_tangent(units_of(top, bottom, depth), depth)
    for step in range(many - 1):
        tangent = half_tangent(tangent, depth)
    arc, off = odd_sum(tangent, depth, -1)
    # Each tangent is off by less than 2, and by half of what the one ahead of it is off by.
    return ends_around(arc << many if number[0] > 0 else -arc << many, (off + 5) << many, -depth)


def half_tangent(tangent, depth):
    """The tangent of half the angle."""
    return units_of(tangent, (1 << depth) + length_of(tangent, depth), depth)


def length_of(tangent, depth):
    """The root of 1 + tangent ** 2."""
    return floor_root((1 << (2 * depth)) + tangent * tangent)


FUNCTIONS_BY_HALVES = {"root": root_by_halves, "exp": exp_by_halves, "log": log_by_halves,
                       "sin": sin_by_halves, "cos": cos_by_halves, "arc": arc_by_halves}


def worth_by_halves(word, number, bits, kept):
    """Low, high and power of the function that the word names."""
    reckon = FUNCTIONS_BY_HALVES[word]
    return reckon(number, bits, kept)
