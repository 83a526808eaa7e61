"""Point 9: bounds of pi and of the logarithm of 2."""

import unittest
from fractions import Fraction
from itertools import product

from oncenear.bounds import log_two_bounds, pi_bounds
from oncenear.errors import NoNumber, NoWord
from oncenear.stretches import Stretch
from tests.helpers import FORM, NO_WHOLES, STRANGE, STRETCH, told_soon, worth
from tests.oracle import log_two_about, pi_about

BITS = list(range(0, 70)) + [100, 255, 256, 600, 1023, 1024, 1599, 1600]
NO_BITS = NO_WHOLES + [-1, 1601, -1600, 10 ** 399, -10 ** 399]
PI_WAYS, LOG_TWO_WAYS = ("five", "eighteen"), ("three", "twentysix")
NO_WAYS = STRANGE + ["Five", "five ", "three ", "fiveteen", "near", "series", 5, 18, 3, 26, (1, 0), FORM, STRETCH]


class Bounds(unittest.TestCase):
    def check(self, stretch, true, bits):
        """That a stretch holds a worth that is known to 700 figures, and is narrow enough."""
        self.assertIsInstance(stretch, Stretch)
        true = Fraction(true)
        self.assertTrue(worth(stretch.low) < true < worth(stretch.high), bits)
        self.assertLessEqual(worth(stretch.width()), Fraction(1, 2 ** bits))

    def test_pi(self):
        for bits, by in product(BITS, PI_WAYS):
            self.check(pi_bounds(bits, by=by), pi_about(700), bits)

    def test_log_two(self):
        for bits, by in product(BITS, LOG_TWO_WAYS):
            self.check(log_two_bounds(bits, by=by), log_two_about(700), bits)

    def test_known_figures(self):
        pi, two = pi_bounds(60), log_two_bounds(60)
        self.assertLess(worth(pi.low), Fraction("3.14159265358979324"))
        self.assertGreater(worth(pi.high), Fraction("3.14159265358979323"))
        self.assertLess(worth(two.low), Fraction("0.69314718055994531"))
        self.assertGreater(worth(two.high), Fraction("0.69314718055994530"))

    def test_both_ways_have_a_common_part(self):
        for bits, others in product((0, 1, 60, 1600), (0, 1, 60, 1600)):
            self.assertIsNotNone(pi_bounds(bits, by="five").common(pi_bounds(others, by="eighteen")))
            self.assertIsNotNone(log_two_bounds(bits, by="three").common(log_two_bounds(others, by="twentysix")))

    def test_soon(self):
        for by in PI_WAYS:
            told_soon(self, lambda: [pi_bounds(1600, by=by) for _ in range(20)])
        for by in LOG_TWO_WAYS:
            told_soon(self, lambda: [log_two_bounds(1600, by=by) for _ in range(20)])

    def test_the_same_again(self):
        for bits in (0, 50, 1600):
            self.assertEqual(pi_bounds(bits), pi_bounds(bits))
            self.assertEqual(log_two_bounds(bits, by="twentysix"), log_two_bounds(bits, by="twentysix"))


class Handing(unittest.TestCase):
    def test_defaults_and_names(self):
        self.assertEqual(pi_bounds(90), pi_bounds(bits=90, by="five"))
        self.assertEqual(pi_bounds(by="eighteen", bits=90), pi_bounds(90, by="eighteen"))
        self.assertEqual(log_two_bounds(90), log_two_bounds(bits=90, by="three"))
        self.assertEqual(log_two_bounds(by="twentysix", bits=90), log_two_bounds(90, by="twentysix"))
        for function, by in ((pi_bounds, "five"), (log_two_bounds, "three")):
            self.assertRaises(TypeError, function, 90, by)
            self.assertRaises(TypeError, function)

    def test_no_bits(self):
        for bits in NO_BITS:
            with self.subTest(bits):
                for by in PI_WAYS:
                    self.assertRaises(NoNumber, pi_bounds, bits, by=by)
                for by in LOG_TWO_WAYS:
                    self.assertRaises(NoNumber, log_two_bounds, bits, by=by)

    def test_no_word_is_told_first(self):
        for function, others in ((pi_bounds, LOG_TWO_WAYS), (log_two_bounds, PI_WAYS)):
            for by, bits in product(NO_WAYS + list(others), (5, -1, 1601, True, None)):
                with self.subTest(by=by, bits=bits):
                    with self.assertRaises(NoWord) as caught:
                        function(bits, by=by)
                    self.assertIs(caught.exception.word, by)
