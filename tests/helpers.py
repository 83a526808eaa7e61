"""What the tests share: wrong things, and the document's words reckoned anew with fractions."""

import time
from bisect import bisect_left, bisect_right
from fractions import Fraction

from oncenear.rounding import Form
from oncenear.stretches import Stretch

FORM = Form(4, least=-6, most=3)
STRETCH = Stretch((1, -2), (3, -2))

# Neither numbers nor whole numbers, forms or stretches, ways or any other words.
STRANGE = [None, True, False, "", "1", "1p0", "Near", "near ", (), [], [[]], ["near"], ("near",), (1,), [1, 0],
           (True, 0), (False, 0), (1, True), (1, False), (False, False), (1, None), (None, 0), (1, "0"), ("1", 0),
           ((1, 0), 0), (1, (0,)), (1, 0, 0), (1, 0, None), (2, 0), (-2, 0), (4, -3), (0, 1), (0, -1),
           (10 ** 399, 0), (1, [0]), ([1], 0), [(1, 0)], ((1, 0),)]
NO_NUMBERS = STRANGE + [0, 1, -3, 10 ** 399, FORM, STRETCH]
NO_WHOLES = STRANGE + [(1, 0), (0, 0), FORM, STRETCH]
NO_FORMS = STRANGE + [0, 4, (1, 0), (4, -6, 3), [4, -6, 3], "Form(4, least=-6, most=3)", STRETCH]
NO_STRETCHES = STRANGE + [0, 4, (1, 0), ((1, -2), (3, -2)), [(1, -2), (3, -2)], "Stretch((1, -2), (3, -2))", FORM]
NO_WAYS = STRANGE + [0, 4, (1, 0), "NEAR", "nearest", "upp", "u", "i", "root", "series", " up", FORM, STRETCH]

SMALL_FORMS = [Form(bits, least=least, most=most)
               for bits in (1, 2, 3, 4) for least in (-3, -1, 0, 2) for most in range(least + 1, least + 8)]


def worth(number):
    """The fraction that a number stands for."""
    return Fraction(number[0]) * Fraction(2) ** number[1]


def number_from(fraction):
    """The number that a fraction by a power of two is."""
    m, e = fraction.numerator, 1 - fraction.denominator.bit_length()
    assert fraction.denominator == 2 ** -e
    while m and m % 2 == 0:
        m, e = m // 2, e + 1
    return (m, e) if m else (0, 0)


def worths_of_form(form, most=None):
    """The rising list of the worths of a small form, by point 6's own words, perhaps with another most."""
    most = form.most if most is None else most
    found = {Fraction(m) * Fraction(2) ** e for m in range(1 - 2 ** form.bits, 2 ** form.bits)
             for e in range(form.least, max(most, form.least) + 1)}
    return sorted(x for x in found if abs(x) < Fraction(2) ** most)


def size_of_worth(fraction):
    """The k with 2 ** k <= |fraction| < 2 ** (k + 1)."""
    k = 0
    while Fraction(2) ** k > abs(fraction):
        k -= 1
    while Fraction(2) ** (k + 1) <= abs(fraction):
        k += 1
    return k


def step_at(form, fraction):
    """The step at the size of a fraction, by point 6's own words."""
    if abs(fraction) < Fraction(2) ** (form.least + form.bits):
        return Fraction(2) ** form.least
    return Fraction(2) ** (size_of_worth(fraction) + 1 - form.bits)


def rounded_among(worths, form, fraction, way):
    """The one of the rising worths, which reach beyond the fraction, that point 7's own words choose."""
    lower = worths[bisect_right(worths, fraction) - 1]
    upper = worths[bisect_left(worths, fraction)]
    inner, outer = sorted([lower, upper], key=abs)
    if way != "near":
        return {"up": upper, "down": lower, "in": inner, "out": outer}[way]
    if fraction - lower != upper - fraction:
        return lower if fraction - lower < upper - fraction else upper
    if lower == upper:
        return lower
    evens = [x for x in (lower, upper) if (x / step_at(form, fraction)) % 2 == 0]
    return evens[0]


def told_soon(test, function, seconds=5):
    """What the function tells; it fails the test if that takes longer than it may."""
    begun = time.perf_counter()
    answer = function()
    test.assertLess(time.perf_counter() - begun, seconds)
    return answer
