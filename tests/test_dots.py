"""Point 5: numbers of twos."""

import unittest
from fractions import Fraction
from itertools import product

from oncenear.dots import is_number, less, number_of, order_of, plus, times
from oncenear.errors import NoNumber
from tests.helpers import NO_NUMBERS, NO_WHOLES, number_from, told_soon, worth

NUMBERS = [(0, 0)] + [(m, e) for m in (1, -1, 3, -3, 5, -7, 15, 17) for e in (-5, -1, 0, 1, 2, 6)]
GREAT = [(sign * m, e) for sign in (1, -1) for m in (1, 2 ** 3999 + 1, 2 ** 4000 - 1) for e in (-4000, 0, 4000)]


class IsNumber(unittest.TestCase):
    def test_numbers(self):
        for number in NUMBERS + GREAT + [(10 ** 399 + 1, 10 ** 399), (-1, -10 ** 399)]:
            self.assertIs(is_number(number), True)

    def test_others(self):
        for thing in NO_NUMBERS:
            with self.subTest(thing):
                self.assertIs(is_number(thing), False)
        self.assertIs(is_number((0, 10 ** 399)), False)
        self.assertIs(is_number((1,) * 1000), False)

    def test_by_name(self):
        self.assertIs(is_number(thing=(1, 0)), True)


class NumberOf(unittest.TestCase):
    def test_each_worth_has_one_telling(self):
        for m, e in product(range(-70, 71), range(-4, 5)):
            number = number_of(m, e)
            self.assertIs(is_number(number), True)
            self.assertEqual(worth(number), m * Fraction(2) ** e)

    def test_named_edges(self):
        self.assertEqual(number_of(0), (0, 0))
        self.assertEqual(number_of(0, 7), (0, 0))
        self.assertEqual(number_of(12), (3, 2))
        self.assertEqual(number_of(-12, -5), (-3, -3))
        self.assertEqual(number_of(-1, 3), (-1, 3))
        self.assertEqual(number_of(2 ** 4000), (1, 4000))
        self.assertEqual(number_of(-3 * 2 ** 3000, -4000), (-3, -1000))
        self.assertEqual(number_of(6, 10 ** 399), (3, 10 ** 399 + 1))

    def test_by_names_and_default(self):
        self.assertEqual(number_of(m=6, e=1), (3, 2))
        self.assertEqual(number_of(e=1, m=6), (3, 2))
        self.assertEqual(number_of(m=6), (3, 1))

    def test_no_whole_numbers(self):
        for thing in NO_WHOLES:
            with self.subTest(thing):
                self.assertRaises(NoNumber, number_of, thing)
                self.assertRaises(NoNumber, number_of, thing, 0)
                self.assertRaises(NoNumber, number_of, 1, thing)
                self.assertRaises(NoNumber, number_of, 0, thing)
                self.assertRaises(NoNumber, number_of, thing, thing)


class Reckoning(unittest.TestCase):
    def test_against_fractions(self):
        for one, other in product(NUMBERS + GREAT[:4], repeat=2):
            first, second = worth(one), worth(other)
            self.assertEqual(plus(one, other), number_from(first + second))
            self.assertEqual(less(one, other), number_from(first - second))
            self.assertEqual(times(one, other), number_from(first * second))
            self.assertEqual(order_of(one, other), (first > second) - (first < second))

    def test_the_greatest_soon(self):
        def all_pairs():
            for one, other in product(GREAT, repeat=2):
                self.assertEqual(less(plus(one, other), other), one)
                self.assertEqual(times(one, other), (one[0] * other[0], one[1] + other[1]))
                self.assertEqual(order_of(one, other), -order_of(other, one))
                self.assertEqual(order_of(one, other) == 0, one == other)
        told_soon(self, all_pairs)

    def test_order_of_neighbours(self):
        for m, e in ((2 ** 4000 - 1, -4000), (-1, 0), (3, 4000), (0, 0)):
            number, greater = (m, e), plus((m, e), (1, -4000))
            self.assertEqual(order_of(number, greater), -1)
            self.assertEqual(order_of(greater, number), 1)
            self.assertEqual(order_of(number, number), 0)

    def test_order_of_like_sizes(self):
        self.assertEqual(order_of((1, 2), (3, 0)), 1)
        self.assertEqual(order_of((-1, 2), (-3, 0)), -1)
        self.assertEqual(order_of((-1, -9), (-1, 9)), 1)
        self.assertEqual(order_of((1, -9), (1, 9)), -1)
        self.assertEqual(order_of((0, 0), (1, -9)), -1)
        self.assertEqual(order_of((0, 0), (-1, -9)), 1)

    def test_order_of_whatever_size(self):
        far, near_nought = (1, 10 ** 399), (3, -10 ** 399)
        self.assertEqual(order_of(far, near_nought), 1)
        self.assertEqual(order_of((-1, 10 ** 399), near_nought), -1)
        self.assertEqual(order_of((0, 0), far), -1)
        self.assertEqual(order_of(far, (3, 10 ** 399 - 1)), -1)
        self.assertEqual(order_of(far, far), 0)

    def test_by_names(self):
        self.assertEqual(plus(other=(1, 0), one=(1, 1)), (3, 0))
        self.assertEqual(less(other=(1, 0), one=(1, 2)), (3, 0))
        self.assertEqual(times(other=(3, 0), one=(1, 1)), (3, 1))
        self.assertEqual(order_of(other=(3, 0), one=(1, 1)), -1)

    def test_no_numbers(self):
        for function in (plus, less, times, order_of):
            for thing in NO_NUMBERS:
                with self.subTest(function=function.__name__, thing=thing):
                    self.assertRaises(NoNumber, function, thing, (1, 0))
                    self.assertRaises(NoNumber, function, (1, 0), thing)
                    self.assertRaises(NoNumber, function, (0, 0), thing)
                    self.assertRaises(NoNumber, function, thing, thing)
