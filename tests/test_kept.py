"""Point 1: what is reckoned is off by no more than is counted for it."""

import math
import unittest
from fractions import Fraction

from oncenear.dots import number_of
from oncenear.kept import Kept
from oncenear.shares import log_of_twos, turns_taken, twos_and_ratio, twos_taken
from oncenear.sums import cosine_of, factorial_sum, floor_units, inverse_sum, odd_sum, power_of_e, sine_of
from tests.helpers import worth
from tests.oracle import log_two_about, pi_about, worth_about

DEPTHS = list(range(10, 60)) + [100, 333, 1024, 1700]
PI, LOG_TWO = Fraction(pi_about(900)), Fraction(log_two_about(900))


class Kepts(unittest.TestCase):
    def test_each_is_the_greatest_that_is_no_greater(self):
        logs = {i: worth_about("log", number_of(2 ** i + 1, -i)) for i in (1, 2, 3, 9, 40)}
        arcs = {i: worth_about("arc", (1, -i)) for i in (1, 2, 3, 9, 40)}
        # Deeper ones last, and first: one that is known already is cut, and is the same then.
        for depths in (DEPTHS, DEPTHS[::-1]):
            kept = Kept()
            for depth in depths:
                self.assertEqual(kept.pi_at(depth), math.floor(PI * 2 ** depth))
                self.assertEqual(kept.log_two_at(depth), math.floor(LOG_TWO * 2 ** depth))
                for i in logs:
                    self.assertEqual(kept.log_step_at(i, depth), math.floor(logs[i] * 2 ** depth))
                    self.assertEqual(kept.arc_step_at(i, depth), math.floor(arcs[i] * 2 ** depth))

    def test_what_is_known_from_the_first(self):
        kept = Kept()
        self.assertEqual((kept.pi_at(0), kept.log_two_at(0), kept.pi_depth, kept.log_two_depth), (3, 0, 0, 0))

    def test_sums_that_leave_open_which_it_is(self):
        asked = []

        def reckon(depth):
            """A third, at first with so much that it may be off by that more must be asked."""
            asked.append(depth)
            return (1 << depth) // 3, 1 << (depth - 8) if len(asked) < 3 else 1

        self.assertEqual(floor_units(reckon, 10), 341)
        self.assertEqual(len(asked), 3)
        self.assertEqual(asked, sorted(set(asked)))


class Shares(unittest.TestCase):
    NUMBERS = [(1, -800), (-3, -9), (1, -1), (-5, -2), (201, -6), (-99, 0), (125, 3), (-125, 3), (2 ** 60 - 1, -51)]

    def test_turns(self):
        for number in self.NUMBERS + [(2 ** 800 - 1, 0), (1, 799), (1 - 2 ** 300, 400)]:
            for depth in DEPTHS:
                turns, rest = turns_taken(number, depth, Kept())
                unit = Fraction(1, 2 ** depth)
                self.assertLess(abs(turns * PI / 2 + rest * unit - worth(number)), 2 * unit)
                self.assertLess(abs(rest * unit), PI / 4 + 3 * unit)

    def test_twos_of_powers(self):
        for number in self.NUMBERS:
            for depth in DEPTHS:
                twos, rest = twos_taken(number, depth, Kept())
                unit = Fraction(1, 2 ** depth)
                self.assertLess(abs(twos * LOG_TWO + rest * unit - worth(number)), 2 * unit)
                self.assertLess(abs(rest * unit), LOG_TWO / 2 + 3 * unit)

    def test_twos_of_logarithms(self):
        for number in [number for number in self.NUMBERS if number[0] > 0] + [(2 ** 800 - 1, 800), (181, 0), (181, -8)]:
            twos, top, bottom = twos_and_ratio(number)
            self.assertEqual(Fraction(top, bottom) * Fraction(2) ** twos, worth(number))
            self.assertTrue(Fraction(7, 10) < Fraction(top, bottom) < Fraction(142, 100))
            for depth in DEPTHS:
                unit = Fraction(1, 2 ** depth)
                self.assertLess(abs(log_of_twos(twos, depth, Kept()) * unit - twos * LOG_TWO), 2 * unit)


class Sums(unittest.TestCase):
    def check(self, told, true, depth):
        """That a sum is off from the true worth by no more than it counts."""
        total, off = told
        self.assertLess(abs(total - true * 2 ** depth), off)
        self.assertLess(off, 5 * depth + 30)

    def test_sums(self):
        for m in (0, 1, 5, 16, 31, 32):
            number = number_of(m, -6)
            for depth in DEPTHS:
                x = m << (depth - 6)
                arc, sine, cosine = [worth_about(word, number) for word in ("arc", "sin", "cos")]
                self.check(odd_sum(x, depth, -1), arc, depth)
                self.check(odd_sum(x, depth, 1), worth_about("log", number_of(64 + m)) / 2
                           - worth_about("log", number_of(64 - m)) / 2, depth)
                self.check(sine_of(x, depth), sine, depth)
                self.check(cosine_of(x, depth), cosine, depth)
                square = x * x >> depth
                self.check(factorial_sum(square >> 1, 2, square, depth, -1), 1 - cosine, depth)
                self.check(power_of_e(x, depth), worth_about("exp", number), depth)
                self.check(power_of_e(-x, depth), 1 / worth_about("exp", number), depth)

    def test_inverse_sums(self):
        for n in (3, 5, 26, 239):
            half = worth_about("log", number_of(n + 1)) / 2 - worth_about("log", number_of(n - 1)) / 2
            for depth in DEPTHS:
                self.check(inverse_sum(n, depth, 1), half, depth)
