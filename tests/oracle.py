"""Worths reckoned anew with decimals, by other ways than the program's own."""

from decimal import MAX_EMAX, MIN_EMIN, Context, Decimal, localcontext
from fractions import Fraction
from functools import lru_cache

from oncenear.dots import number_of
from tests.helpers import worth

DIGITS = 800


def context(digits):
    """A context of so many figures, in which nothing is too great or too small."""
    return Context(prec=digits, Emax=MAX_EMAX, Emin=MIN_EMIN)


@lru_cache(maxsize=None)
def pi_about(digits):
    """Pi by the mean of means, to so many figures."""
    with localcontext(context(digits + 20)):
        a, b, t, p = Decimal(1), 1 / Decimal(2).sqrt(), Decimal(1) / 4, Decimal(1)
        while abs(a - b) > Decimal(10) ** (-digits - 5):
            mean = (a + b) / 2
            a, b, t, p = mean, (a * b).sqrt(), t - p * (a - mean) ** 2, 2 * p
        return (a + b) ** 2 / (4 * t)


@lru_cache(maxsize=None)
def log_two_about(digits):
    """The logarithm of 2, to so many figures."""
    with localcontext(context(digits + 20)):
        return Decimal(2).ln()


def sine(x, digits):
    """The sine of a decimal, all of its turns taken away."""
    turn = 2 * pi_about(digits + 250)
    x = x - turn * (x / turn).to_integral_value()
    total, term, k = Decimal(0), x, 1
    while abs(term) > Decimal(10) ** (-digits - 20):
        total, term, k = total + term, -term * x * x / ((k + 1) * (k + 2)), k + 2
    return total


def arc(x, digits):
    """The arc of a decimal: twelve times that of the tangent of a half."""
    for _ in range(12):
        x = x / (1 + (1 + x * x).sqrt())
    total, power, k = Decimal(0), x, 1
    while abs(power) > Decimal(10) ** (-digits - 30):
        total, power, k = total + power / k, -power * x * x, k + 2
    return total * 2 ** 12


@lru_cache(maxsize=None)
def worth_about(word, number, digits=DIGITS):
    """The worth as a fraction, right to so many figures behind the dot, for worths above 1 in size in all."""
    with localcontext(context(digits + 300)):
        exact = worth(number)
        x = Decimal(exact.numerator) / exact.denominator
        if word == "cos":
            return Fraction(sine(x + pi_about(digits + 250) / 2, digits))
        if word in ("sin", "arc"):
            return Fraction({"sin": sine, "arc": arc}[word](x, digits))
        return Fraction({"root": x.sqrt, "exp": x.exp, "log": x.ln}[word]())


def holds_about(stretch, fraction, digits=DIGITS):
    """Whether a stretch holds a fraction, as far as one can tell that is right to so many figures."""
    off = (1 + abs(fraction)) / 10 ** digits
    return worth(stretch.low) <= fraction + off and fraction - off <= worth(stretch.high)


def floor_number(fraction, power):
    """The greatest number that is a whole number times 2 ** power and no greater than a fraction."""
    return number_of((fraction / Fraction(2) ** power).__floor__(), power)
