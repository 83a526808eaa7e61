"""Point 8: stretches."""

import random
import unittest
from fractions import Fraction
from itertools import product
from math import isqrt

from oncenear.dots import number_of, order_of, plus, times
from oncenear.errors import NoNumber, NoStretch
from oncenear.stretches import Stretch, product_of, quotient_of, root_of, sum_of
from tests.helpers import FORM, NO_NUMBERS, NO_STRETCHES, NO_WHOLES, STRETCH, number_from, told_soon, worth

ENDS = [(-5, 0), (-3, -1), (-1, -3), (0, 0), (1, -4), (1, 0), (3, 0), (7, 1)]
STRETCHES = [Stretch(low, high) for low, high in product(ENDS, repeat=2) if worth(low) <= worth(high)]
NO_BITS = NO_WHOLES + [-1, 801, -10 ** 399, 10 ** 399]


def ends(stretch):
    """The worths of a stretch's ends."""
    return worth(stretch.low), worth(stretch.high)


def grid(low, high, bits):
    """The least stretch with ends that are whole numbers by 2 ** bits around two fractions."""
    unit = 2 ** bits
    return Stretch(number_from(Fraction((low * unit).__floor__(), unit)),
                   number_from(Fraction((high * unit).__ceil__(), unit)))


class Making(unittest.TestCase):
    def test_values(self):
        stretch = Stretch((-1, 3), (5, -2))
        self.assertEqual((stretch.low, stretch.high), ((-1, 3), (5, -2)))
        stretch = Stretch(high=(5, -2), low=(-1, 3))
        self.assertEqual((stretch.low, stretch.high), ((-1, 3), (5, -2)))
        self.assertEqual(Stretch((1, 0), (1, 0)).width(), (0, 0))

    def test_low_above_high(self):
        for low, high in product(ENDS + [(3, -800), (-1, 4000)], repeat=2):
            if worth(low) > worth(high):
                self.assertRaises(NoStretch, Stretch, low, high)
            else:
                self.assertEqual(Stretch(low, high).high, high)

    def test_no_numbers(self):
        for thing in NO_NUMBERS:
            with self.subTest(thing):
                self.assertRaises(NoNumber, Stretch, thing, (1, 0))
                self.assertRaises(NoNumber, Stretch, (1, 0), thing)
                self.assertRaises(NoNumber, Stretch, thing, thing)

    def test_equal(self):
        self.assertTrue(Stretch((1, -2), (3, -2)) == STRETCH)
        self.assertFalse(Stretch((1, -2), (3, -2)) != STRETCH)
        for other in (Stretch((1, -2), (1, -2)), Stretch((1, -3), (3, -2)), FORM, None, True,
                      ((1, -2), (3, -2)), "Stretch((1, -2), (3, -2))", [STRETCH]):
            self.assertIs(STRETCH == other, False)
            self.assertIs(other == STRETCH, False)
            self.assertIs(STRETCH != other, True)

    def test_repr(self):
        self.assertEqual(repr(STRETCH), "Stretch((1, -2), (3, -2))")
        self.assertEqual(repr(Stretch((-1, 5), (0, 0))), "Stretch((-1, 5), (0, 0))")


class Methods(unittest.TestCase):
    def test_holds(self):
        for stretch in STRETCHES:
            low, high = ends(stretch)
            for number in ENDS + [(1, -800), (-1, -800)]:
                self.assertIs(stretch.holds(number), low <= worth(number) <= high)
        self.assertIs(STRETCH.holds(number=(1, -1)), True)

    def test_width(self):
        for stretch in STRETCHES:
            low, high = ends(stretch)
            self.assertEqual(stretch.width(), number_from(high - low))

    def test_common(self):
        for one, other in product(STRETCHES, repeat=2):
            low, high = max(ends(one)[0], ends(other)[0]), min(ends(one)[1], ends(other)[1])
            told = None if low > high else Stretch(number_from(low), number_from(high))
            self.assertEqual(one.common(other), told)

    def test_those_that_only_touch(self):
        self.assertEqual(STRETCH.common(Stretch((3, -2), (1, 0))), Stretch((3, -2), (3, -2)))
        self.assertEqual(STRETCH.common(Stretch((-1, 0), (1, -2))), Stretch((1, -2), (1, -2)))
        self.assertIs(STRETCH.common(Stretch(number_of(3 * 2 ** 798 + 1, -800), (1, 0))), None)
        self.assertEqual(STRETCH.common(other=STRETCH), STRETCH)

    def test_within(self):
        for one, other in product(STRETCHES, repeat=2):
            inside = ends(other)[0] <= ends(one)[0] and ends(one)[1] <= ends(other)[1]
            self.assertIs(one.within(other), inside)
        self.assertIs(STRETCH.within(other=STRETCH), True)

    def test_refusals(self):
        for thing in NO_NUMBERS:
            self.assertRaises(NoNumber, STRETCH.holds, thing)
        for thing in NO_STRETCHES:
            self.assertRaises(NoStretch, STRETCH.common, thing)
            self.assertRaises(NoStretch, STRETCH.within, thing)

    def test_nothing_handed_in_is_changed(self):
        other = Stretch((-1, 0), (1, -1))
        for reckon in (STRETCH.common, STRETCH.within, lambda x: sum_of(x, STRETCH), lambda x: product_of(STRETCH, x),
                       lambda x: quotient_of(x, STRETCH, bits=5)):
            reckon(other)
        root_of(STRETCH, bits=9)
        self.assertEqual(STRETCH, Stretch((1, -2), (3, -2)))
        self.assertEqual(other, Stretch((-1, 0), (1, -1)))


class SumsAndProducts(unittest.TestCase):
    def test_against_fractions(self):
        for one, other in product(STRETCHES, repeat=2):
            products = [x * y for x in ends(one) for y in ends(other)]
            self.assertEqual(product_of(one, other), Stretch(number_from(min(products)), number_from(max(products))))
            self.assertEqual(sum_of(one, other), Stretch(number_from(ends(one)[0] + ends(other)[0]),
                                                         number_from(ends(one)[1] + ends(other)[1])))

    def test_by_names(self):
        one, other = Stretch((1, 0), (1, 1)), Stretch((-1, 0), (3, 0))
        self.assertEqual(sum_of(other=other, one=one), Stretch((0, 0), (5, 0)))
        self.assertEqual(product_of(other=other, one=one), Stretch((-1, 1), (3, 1)))

    def test_refusals(self):
        for thing in NO_STRETCHES:
            with self.subTest(thing):
                for function in (sum_of, product_of):
                    self.assertRaises(NoStretch, function, thing, STRETCH)
                    self.assertRaises(NoStretch, function, STRETCH, thing)
                    self.assertRaises(NoStretch, function, thing, thing)


class Quotients(unittest.TestCase):
    def test_against_fractions(self):
        for one, other, bits in product(STRETCHES, STRETCHES, (0, 1, 4)):
            if ends(other)[0] <= 0 <= ends(other)[1]:
                self.assertRaises(NoStretch, quotient_of, one, other, bits=bits)
                continue
            quotients = [x / y for x in ends(one) for y in ends(other)]
            told = grid(min(quotients), max(quotients), bits)
            self.assertEqual(quotient_of(one, other, bits=bits), told)

    def test_bounds_of_bits(self):
        one, three = Stretch((1, 0), (1, 0)), Stretch((3, 0), (3, 0))
        self.assertEqual(quotient_of(one, three, bits=0), Stretch((0, 0), (1, 0)))
        self.assertEqual(quotient_of(bits=800, other=three, one=one),
                         Stretch(number_of(2 ** 800 // 3, -800), number_of(2 ** 800 // 3 + 1, -800)))
        self.assertEqual(quotient_of(three, one, bits=0), three)
        with self.assertRaises(TypeError):
            quotient_of(one, three, 5)
        with self.assertRaises(TypeError):
            quotient_of(one, three)

    def test_great_numbers_soon(self):
        great = [Stretch((2 ** 4000 - 1, -4000), (1, 4000)), Stretch((1, -4000), (2 ** 4000 - 1, 4000)),
                 Stretch((1 - 2 ** 4000, 4000), (-1, -4000))]
        for one, other in product(great, repeat=2):
            quotients = [x / y for x in ends(one) for y in ends(other)]
            told = told_soon(self, lambda: quotient_of(one, other, bits=800))
            self.assertEqual(told, grid(min(quotients), max(quotients), 800))

    def test_refusals(self):
        with_nought = [Stretch((0, 0), (0, 0)), Stretch((-1, 0), (0, 0)), Stretch((0, 0), (1, 0)),
                       Stretch((-1, -800), (1, -800))]
        for other in with_nought:
            for bits in (0, 5, 801, None):
                self.assertRaises(NoStretch, quotient_of, STRETCH, other, bits=bits)
        for thing in NO_STRETCHES:
            for bits in (5, 801, True):
                self.assertRaises(NoStretch, quotient_of, thing, STRETCH, bits=bits)
                self.assertRaises(NoStretch, quotient_of, STRETCH, thing, bits=bits)
                self.assertRaises(NoStretch, quotient_of, thing, with_nought[0], bits=bits)
        for bits in NO_BITS:
            with self.subTest(bits):
                self.assertRaises(NoNumber, quotient_of, STRETCH, STRETCH, bits=bits)


class Roots(unittest.TestCase):
    def check(self, one, bits):
        """That the told ends are just around the roots of the stretch's ends."""
        told = root_of(one, bits=bits)
        unit = Fraction(1, 2 ** bits)
        low, high = ends(told)
        self.assertEqual((low / unit).denominator, 1)
        self.assertEqual((high / unit).denominator, 1)
        self.assertTrue(0 <= low and low ** 2 <= ends(one)[0] < (low + unit) ** 2)
        self.assertTrue(0 <= high and ends(one)[1] <= high ** 2)
        self.assertTrue(high == 0 or (high - unit) ** 2 < ends(one)[1])

    def test_against_squares(self):
        numbers = [number_of(m, e) for m in range(0, 40) for e in (-3, -2, 0, 1)]
        for number in numbers:
            for bits in (0, 1, 2, 5):
                self.check(Stretch(number, number), bits)
                self.check(Stretch((0, 0), number), bits)
                self.check(Stretch(number, (41, 3)), bits)

    def test_named_edges(self):
        nought = Stretch((0, 0), (0, 0))
        self.assertEqual(root_of(nought, bits=0), nought)
        self.assertEqual(root_of(nought, bits=800), nought)
        self.assertEqual(root_of(Stretch((1, 2), (9, 0)), bits=0), Stretch((1, 1), (3, 0)))
        self.assertEqual(root_of(Stretch((1, -2), (1, -2)), bits=0), Stretch((0, 0), (1, 0)))
        self.assertEqual(root_of(Stretch((1, -2), (1, -2)), bits=1), Stretch((1, -1), (1, -1)))
        two = isqrt(2 ** 1601)
        self.assertEqual(root_of(bits=800, one=Stretch((1, 1), (1, 1))),
                         Stretch(number_of(two, -800), number_of(two + 1, -800)))
        with self.assertRaises(TypeError):
            root_of(nought, 5)
        with self.assertRaises(TypeError):
            root_of(nought)

    def test_great_numbers_soon(self):
        for one in (Stretch((2 ** 4000 - 1, -4000), (2 ** 4000 - 1, 4000)), Stretch((1, -4000), (1, 4000)),
                    Stretch((2 ** 3999 + 1, 3999), (2 ** 3999 + 1, 3999))):
            for bits in (0, 800):
                told_soon(self, lambda: self.check(one, bits))

    def test_refusals(self):
        for one in (Stretch((-1, -800), (1, 0)), Stretch((-1, 0), (-1, 0)), Stretch((-1, 0), (0, 0))):
            for bits in (0, 801, True, None):
                self.assertRaises(NoStretch, root_of, one, bits=bits)
        for thing in NO_STRETCHES:
            for bits in (5, -1, "5"):
                self.assertRaises(NoStretch, root_of, thing, bits=bits)
        for bits in NO_BITS:
            with self.subTest(bits):
                self.assertRaises(NoNumber, root_of, STRETCH, bits=bits)


class Fives(unittest.TestCase):
    """Five stretches each with each, as many are asked for one behind another."""

    @staticmethod
    def number(chance):
        """A number of up to 200 bits, with an exponent up to 800 in size."""
        length = chance.choice((1, 8, 64, 200))
        e = chance.randrange(-800, 801) if chance.random() < 0.3 else chance.randrange(-length - 9, 10)
        return number_of(chance.choice((-1, 1)) * chance.getrandbits(length), e)

    def stretch(self, chance):
        """A stretch, now and then of one number."""
        low, high = sorted([self.number(chance), self.number(chance)], key=worth)
        return Stretch(low, low if chance.random() < 0.2 else high)

    def five(self, chance):
        """Five of them."""
        return [self.stretch(chance) for _ in range(5)]

    @staticmethod
    def ask(one, other, bits, parts):
        """All that is asked of a pair: what is told, as numbers, stretches, True and False."""
        numbers = [plus(stretch.low, times(stretch.width(), part)) for stretch in (one, other) for part in parts]
        told = [one.holds(number) for number in numbers] + [other.holds(number) for number in numbers]
        sums, products = sum_of(one, other), product_of(one, other)
        for first, second in zip(numbers[:3], numbers[3:]):
            told += [sums.holds(plus(first, second)), products.holds(times(first, second))]
        told += [one.common(other), other.common(one), one.within(other), other.within(one), sums, products]
        if not other.holds((0, 0)):
            told += [quotient_of(one, other, bits=bits), quotient_of(one, other, bits=bits + 7)]
            told += [order_of(times(end, by), other_end) for end in (told[-1].low, told[-1].high)
                     for by in (other.low, other.high) for other_end in (one.low, one.high)]
        if order_of((0, 0), one.low) <= 0:
            told += [root_of(one, bits=bits), root_of(one, bits=bits + 7)]
        return told

    def test_against_fractions(self):
        chance = random.Random(8)
        for _ in range(12):
            for one, other in product(self.five(chance), repeat=2):
                products = [x * y for x in ends(one) for y in ends(other)]
                self.assertEqual(ends(product_of(one, other)), (min(products), max(products)))
                sums = [x + y for x in ends(one) for y in ends(other)]
                self.assertEqual(ends(sum_of(one, other)), (min(sums), max(sums)))
                low, high = max(ends(one)[0], ends(other)[0]), min(ends(one)[1], ends(other)[1])
                common = one.common(other)
                self.assertEqual(None if common is None else ends(common), (low, high) if low <= high else None)
                self.assertIs(one.within(other), (low, high) == ends(one))
                bits = chance.randrange(300)
                if not ends(other)[0] <= 0 <= ends(other)[1]:
                    quotients = [x / y for x in ends(one) for y in ends(other)]
                    self.assertEqual(quotient_of(one, other, bits=bits), grid(min(quotients), max(quotients), bits))
                if ends(one)[0] >= 0:
                    roots = root_of(one, bits=bits)
                    low, high = [Fraction(isqrt((x * 4 ** bits).__floor__()), 2 ** bits) for x in ends(one)]
                    self.assertEqual(ends(roots), (low, high if high ** 2 == ends(one)[1] else high + Fraction(1, 2 ** bits)))

    def test_soon(self):
        chance = random.Random(9)
        fives = [self.five(chance) for _ in range(60)]
        parts = [(0, 0), (3, -2), (1, 0)]
        told_soon(self, lambda: [self.ask(one, other, 150, parts) for five in fives
                                 for one, other in product(five, repeat=2)], 60 / 150)

    def test_what_is_asked_of_a_pair(self):
        chance = random.Random(10)
        for one, other in product(self.five(chance), repeat=2):
            told = self.ask(one, other, 99, [(0, 0), (3, -2), (1, 0)])
            self.assertTrue(all(told[:3] + told[9:18]))
