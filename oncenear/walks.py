"""Walks: sums of the first terms of series, what is left behind them, and the steps of products and turns."""

from oncenear.dots import added, compared, lowered, need_number, negated
from oncenear.errors import NoPlace
from oncenear.kept import Kept
from oncenear.places import is_between, need_place
from oncenear.rounding import fraction_size
from oncenear.shares import ratio_of
from oncenear.stretches import Stretch
from oncenear.wholes import need_whole_within, power_of
from oncenear.words import need_word
from oncenear.worths import ends_of_worth

MOST_TERMS = 60
MOST_STEPS = 200
END_BITS = 64

# Of each series the first k, how far each k is from the next one, and what a sign is times from term to term.
SERIES = {"exp": (0, 1, 1), "sin": (1, 2, -1), "cos": (0, 2, -1), "arc": (1, 2, -1), "log": (1, 2, 1)}
STEP_PLACES = {"exp": ((0, 0), (1, -1)), "log": ((1, 0), (1, 1)), "arc": ((0, 0), (1, 0))}

# Up to the greatest k: top and bottom of a sum have no other primes in common, but for 2.
ODD_PRIMES = (3, 5, 7, 11, 13, 17, 19, 23, 29, 31, 37, 41, 43, 47, 53, 59, 61, 67, 71, 73, 79, 83, 89, 97,
              101, 103, 107, 109, 113)


def series_sum(word, number, many):
    """The sum of the first many terms of the function's series, as top and bottom in lowest terms."""
    need_series(word, number, many)
    top, bottom = sum_of_terms(word, number, many)
    return lowest(top, bottom)


def series_rest(word, number, many):
    """A stretch that holds the worth less the sum of the first many terms."""
    need_series(word, number, many)
    if word == "log":
        return rest_of_log(number, many)
    if word == "exp" and number[0] > 0:
        return rest_of_power(number, many)
    # The signs are by turns: what is left is between nought and the next term, of the sine, the cosine and powers of
    # numbers below 0 even where the terms grow at first.
    top, bottom = term_at(word, number, many)
    return stretch_between(0, top, bottom)


def steps_of(word, number, many):
    """The rising list of the steps from 1 to many."""
    need_word(word, tuple(STEP_PLACES))
    need_number(number)
    need_whole_within(many, 1, MOST_STEPS)
    least, most = STEP_PLACES[word]
    if not is_between(number, least, most):
        raise NoPlace(word, number)
    if word == "log":
        return steps_of_log(number, many)
    if word == "arc":
        return steps_of_arc(number, many)
    return steps_of_power(number, many)


def need_series(word, number, many):
    """Refuse what series_sum and series_rest refuse."""
    need_word(word, tuple(SERIES))
    need_number(number)
    need_whole_within(many, 1, MOST_TERMS)
    need_place(word, number)
    if word == "arc" and not is_between(number, (-1, 0), (1, 0)):
        raise NoPlace(word, number)


def argument_of(word, number):
    """What the series of a word is of: top, bottom, and how many times 2 is in its bottom beside.

    Top and bottom have no prime in common but 2.
    """
    m, e = number
    if word != "log":
        return m << max(e, 0), 1, max(-e, 0)
    top, bottom = ratio_of(number)
    return top - bottom, top + bottom, 0


def sum_of_terms(word, number, many):
    """Top and bottom of the sum of the first many terms."""
    x_top, x_bottom, twos = argument_of(word, number)
    k, stride, turn = SERIES[word]
    total = power = first_power(word, x_top)
    bottom, shift = (x_bottom, twos) if k == 1 else (1, 0)
    own = 1
    if stride == 2:
        x_top, x_bottom, twos = x_top * x_top, x_bottom * x_bottom, 2 * twos
    for place in range(many - 1):
        # The bottom is that of the last term's power times k!, or times all odd numbers up to k.
        power *= turn * x_top
        if word in ("arc", "log"):
            own *= k
            grow = x_bottom * (k + 2)
        else:
            grow = k + 1 if stride == 1 else (k + 1) * (k + 2)
        total = (total * grow << twos) + power * own
        bottom *= grow
        shift += twos
        k += stride
    return total, bottom << shift


def first_power(word, x_top):
    """The top of the first term."""
    if word == "log":
        return 2 * x_top
    return x_top if SERIES[word][0] == 1 else 1


def term_at(word, number, place):
    """Top and bottom of the term that so many are ahead of."""
    x_top, x_bottom, twos = argument_of(word, number)
    first, stride, turn = SERIES[word]
    k = first + stride * place
    top = power_of(x_top, k) * (2 if word == "log" else 1)
    bottom = power_of(x_bottom, k) * (k if word in ("arc", "log") else factorial_of(k)) << (twos * k)
    return (-top if turn < 0 and place & 1 else top), bottom


def factorial_of(k):
    """The product of all whole numbers from 1 to k."""
    product = 1
    for factor in range(2, k + 1):
        product *= factor
    return product


def lowest(top, bottom):
    """Top by bottom, of a sum of a series, in lowest terms."""
    if top == 0:
        return (0, 1)
    both = top | bottom
    twos = (both & -both).bit_length() - 1
    top >>= twos
    bottom >>= twos
    for prime in odd_primes_of_both(top, bottom):
        while top % prime == 0 and bottom % prime == 0:
            top //= prime
            bottom //= prime
    return (top, bottom)


def odd_primes_of_both(top, bottom):
    """Those of the odd primes that divide both top and bottom."""
    every = 1
    for prime in ODD_PRIMES:
        every *= prime
    # These are small, so that it is soon told what divides them.
    top %= every
    bottom %= every
    return [prime for prime in ODD_PRIMES if top % prime == 0 and bottom % prime == 0]


def rest_of_log(number, many):
    """What is left of the logarithm: all terms have one sign, and each is less than z ** 2 times the one ahead."""
    top, bottom = term_at("log", number, many)
    z_top, z_bottom, twos = argument_of("log", number)
    square = z_bottom * z_bottom
    less_than_square = square - z_top * z_top
    return stretch_between(top * less_than_square, top * square, bottom * less_than_square)


def rest_of_power(number, many):
    """What is left of the power of e of a number above 0."""
    top, bottom = term_at("exp", number, many)
    if compared(number, (1, 0)) <= 0:
        # Each term is at most half of the one ahead.
        return stretch_between(top, 2 * top, bottom)
    # No less is left than that term, so its size tells how many bits are needed.
    bits = END_BITS - fraction_size(top, bottom)
    low, high, power = ends_of_worth("exp", number, bits, "series", Kept())
    top, bottom = sum_of_terms("exp", number, many)
    # The ends of the power and the sum are brought to one bottom.
    top <<= max(-power, 0)
    low, high = (low << max(power, 0)) * bottom, (high << max(power, 0)) * bottom
    return stretch_between(low - top, high - top, bottom << max(-power, 0))


def stretch_between(one, other, bottom):
    """The stretch around all from one by bottom to other by bottom, its ends numbers of at most 64 bits."""
    low, high = min(one, other), max(one, other)
    return Stretch(end_below(low, bottom), negated(end_below(-high, bottom)))


def end_below(top, bottom):
    """The greatest number of at most 64 bits that is no greater than top by bottom."""
    if top == 0:
        return (0, 0)
    power = fraction_size(top, bottom) + 1 - END_BITS
    if power < 0:
        return lowered((top << -power) // bottom, power)
    return lowered(top // (bottom << power), power)


def steps_of_log(number, many):
    """The steps at which the number, times 1 + 2 ** -i of each, stays no greater than 2."""
    product, two = ratio_of(number)
    two *= 2
    steps = []
    for i in range(1, many + 1):
        grown = (product << i) + product
        if grown <= two << i:
            product = grown
            two <<= i
            steps.append(i)
    return steps


def steps_of_arc(number, many):
    """The steps at which (1, number) is turned by the arc of 2 ** -i towards the first axis."""
    y, x = ratio_of(number)
    steps = []
    for i in range(1, many + 1):
        if y << i >= x:
            x, y = (x << i) + y, (y << i) - x
            steps.append(i)
    return steps


def steps_of_power(number, many):
    """The steps at which the product of 1 + 2 ** -i stays no greater than the power of e of the number."""
    if number == (0, 0):
        return []
    kept = Kept()
    bits = many + 8
    while True:
        low, high, power = ends_of_worth("exp", number, bits, "series", kept)
        steps = steps_up_to(lowered(low, power), lowered(high, power), many)
        if steps is not None:
            return steps
        # That ends, as no such product is the power itself.
        bits *= 2


def steps_up_to(low, high, many):
    """The steps at which the product stays no greater than what is between low and high, None where that is open."""
    product = (1, 0)
    steps = []
    for i in range(1, many + 1):
        grown = added(product, (product[0], product[1] - i))
        if compared(grown, low) <= 0:
            product = grown
            steps.append(i)
        elif compared(grown, high) <= 0:
            return None
    return steps
