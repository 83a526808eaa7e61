"""Worths by steps: products of 1 + 2 ** -i, and turns by the arcs of 2 ** -i, bring a number near its end.

Each function of a worth here tells low, high and power: the worth lies between low and high times 2 ** power.
"""

from oncenear.dots import floor_at
from oncenear.shares import depth_for, ends_around, log_of_twos, ratio_of, turns_taken
from oncenear.shares import twos_and_ratio, twos_in_power, twos_taken, units_of
from oncenear.sums import cosine_of, odd_sum, power_of_e, sine_of
from oncenear.wholes import floor_root


def first_step(units, depth):
    """The first step that may be due where so many units are left."""
    return max(1, depth - units.bit_length())


def last_step(depth):
    """The last step that is taken: what is left then is soon told by a series."""
    return 2 * floor_root(depth)


def root_by_steps(number, bits, kept):
    """The root, one bit after another."""
    depth = bits + 4
    root = root_bit_by_bit(floor_at(number, -2 * depth))
    return root, root + 1, -depth


def root_bit_by_bit(whole):
    """The greatest whole number whose square is no greater than whole."""
    place = 1 << (whole.bit_length() // 2 * 2)
    root = 0
    left = whole
    while place:
        if left >= root + place:
            left -= root + place
            root = (root >> 1) + place
        else:
            root >>= 1
        place >>= 2
    return root


def exp_by_steps(number, bits, kept):
    """The power of e, 2 to a power taken out: logarithms of 1 + 2 ** -i are taken off what is left."""
    depth = depth_for(bits + twos_in_power(number))
    twos, rest = twos_taken(number, depth, kept)
    product, left, taken = product_by_steps(abs(rest), depth, kept)
    last, last_off = power_of_e(left, depth)
    # The product is off by less than 3 for each step, what is left by less than 2 for each and for the rest;
    # neither of the two powers is above 3 by 2.
    off = 8 * taken + 2 * last_off + 6
    power = product * last >> depth
    if rest < 0:
        power = (1 << (2 * depth)) // power
        off = 2 * off + 2
    return ends_around(power, off, twos - depth)


def product_by_steps(left, depth, kept):
    """The product of the steps' 1 + 2 ** -i, what is left behind them, and how many there are."""
    product = 1 << depth
    taken = 0
    for i in range(first_step(left, depth), last_step(depth) + 1):
        # Below half of 2 ** -i it isn't due, and needs not be found.
        if left.bit_length() < depth - i:
            continue
        step = kept.log_step_at(i, depth)
        if left >= step:
            left -= step
            product += product >> i
            taken += 1
    return product, left, taken


def log_by_steps(number, bits, kept):
    """The logarithm: the lesser one of a number and 1 is brought near the greater one by factors 1 + 2 ** -i."""
    depth = depth_for(bits)
    twos, top, bottom = twos_and_ratio(number)
    units = units_of(top, bottom, depth)
    one = 1 << depth
    low, high = min(one, units), max(one, units)
    total, low, taken = logs_of_steps(low, high, depth, kept)
    half, half_off = odd_sum(units_of(high - low, high + low, depth), depth, 1)
    total += 2 * half
    if units < one:
        total = -total
    # Each step's logarithm is off by less than 2, and low by less than 1, at 0.7 or more.
    off = 4 * taken + 2 * half_off + 8
    return ends_around(total + log_of_twos(twos, depth, kept), off, -depth)


def logs_of_steps(low, high, depth, kept):
    """The sum of the logarithms of the steps that bring low near high, where it is then, and how many there are."""
    total = 0
    taken = 0
    for i in range(first_step(high - low, depth), last_step(depth) + 1):
        more = low >> i
        if low + more <= high:
            low += more
            total += kept.log_step_at(i, depth)
            taken += 1
    return total, low, taken


def sin_by_steps(number, bits, kept):
    """The sine."""
    return wave_by_steps(number, bits, kept, 0)


def cos_by_steps(number, bits, kept):
    """The cosine: the sine of what is a quarter turn ahead."""
    return wave_by_steps(number, bits, kept, 1)


def wave_by_steps(number, bits, kept, ahead):
    """The sine of what is so many quarter turns ahead of a number."""
    depth = depth_for(bits)
    turns, rest = turns_taken(number, depth, kept)
    turns += ahead
    x, y, left, stretched, taken = turned_by_steps(abs(rest), depth, kept)
    sine, sine_off = sine_of(left, depth)
    cosine, cosine_off = cosine_of(left, depth)
    if turns & 1:
        worth = x * cosine - y * sine
    else:
        worth = y * cosine + x * sine
        worth = worth if rest >= 0 else -worth
    worth //= floor_root(stretched << depth)
    # Each step makes x and y off by less than 2, what is left by less than 2, and the length by less than 1.
    off = 6 * taken + 2 * (sine_off + cosine_off) + 8
    return ends_around(-worth if turns & 2 else worth, off, -depth)


def turned_by_steps(left, depth, kept):
    """Where turns by the arcs of 2 ** -i bring (1, 0), what is left, the square of the length, how many steps."""
    x = stretched = 1 << depth
    y = 0
    taken = 0
    for i in range(first_step(left, depth), last_step(depth) + 1):
        # Below half of 2 ** -i it isn't due, and needs not be found.
        if left.bit_length() < depth - i:
            continue
        step = kept.arc_step_at(i, depth)
        if left >= step:
            left -= step
            x, y = x - (y >> i), y + (x >> i)
            stretched += stretched >> (2 * i)
            taken += 1
    return x, y, left, stretched, taken


def arc_by_steps(number, bits, kept):
    """The arc: turns by the arcs of 2 ** -i bring (1, number), or (number, 1), near the first axis."""
    depth = depth_for(bits)
    top, bottom = ratio_of(number)
    tangent = units_of(min(top, bottom), max(top, bottom), depth)
    total, x, y, taken = arcs_of_steps(1 << depth, tangent, depth, kept)
    last, last_off = odd_sum(units_of(y, x, depth), depth, -1)
    total += last
    if top > bottom:
        total = kept.pi_at(depth - 1) - total
    # Each step's arc is off by less than 2, and the turned place by less than 3 by 2.
    off = 4 * taken + last_off + 8
    return ends_around(total if number[0] > 0 else -total, off, -depth)


def arcs_of_steps(x, y, depth, kept):
    """The sum of the arcs of the steps that bring (x, y) near the first axis, where it is then, how many there are."""
    total = 0
    taken = 0
    for i in range(first_step(y, depth), last_step(depth) + 1):
        if y >= x >> i:
            x, y = x + (y >> i), y - (x >> i)
            total += kept.arc_step_at(i, depth)
            taken += 1
    return total, x, y, taken


FUNCTIONS_BY_STEPS = {"root": root_by_steps, "exp": exp_by_steps, "log": log_by_steps,
                      "sin": sin_by_steps, "cos": cos_by_steps, "arc": arc_by_steps}


def worth_by_steps(word, number, bits, kept):
    """Low, high and power of the function that the word names."""
    reckon = FUNCTIONS_BY_STEPS[word]
    return reckon(number, bits, kept)
