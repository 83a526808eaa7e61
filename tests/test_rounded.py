"""Point 7: rounding of fractions."""

import unittest
from fractions import Fraction

from oncenear.errors import NoForm, NoNumber, NoWord, TooGreat
from oncenear.rounding import Form, rounded
from tests.helpers import FORM, NO_FORMS, NO_WAYS, NO_WHOLES, SMALL_FORMS
from tests.helpers import number_from, rounded_among, told_soon, worths_of_form

WAYS = ("near", "up", "down", "in", "out")


def fractions_for(worths):
    """Fractions on, midway between, and just beside the worths and their middles, all within their ends."""
    mids = [(low + high) / 2 for low, high in zip(worths, worths[1:])]
    tiny = Fraction(1, 3 * 10 ** 20)
    beside = [x + far for x in worths + mids for far in (-tiny, Fraction(0), tiny)]
    return [x for x in beside if worths[0] <= x <= worths[-1]]


class SmallForms(unittest.TestCase):
    def check(self, form, fraction, way, number):
        """That rounded tells the number, or refuses it if it is too great."""
        if abs(Fraction(number[0]) * Fraction(2) ** number[1]) < Fraction(2) ** form.most:
            self.assertEqual(rounded(form, fraction.numerator, fraction.denominator, way=way), number)
            self.assertEqual(rounded(form, 7 * fraction.numerator, 7 * fraction.denominator, way=way), number)
            return
        with self.assertRaises(TooGreat) as caught:
            rounded(form, fraction.numerator, fraction.denominator, way=way)
        self.assertEqual(caught.exception.number, number)

    def test_every_way_on_between_and_beside(self):
        for form in SMALL_FORMS:
            # Two exponents more than the form has, so that what is too great is seen, too.
            worths = worths_of_form(form, form.most + 2)
            for fraction in fractions_for(worths):
                for way in WAYS:
                    with self.subTest(form=form, fraction=fraction, way=way):
                        number = number_from(rounded_among(worths, form, fraction, way))
                        self.check(form, fraction, way, number)


class Edges(unittest.TestCase):
    def tell(self, top, bottom, form=FORM):
        """What each of the five ways tells, in their order."""
        return [rounded(form, top, bottom, way=way) for way in WAYS]

    def test_nought(self):
        self.assertEqual(self.tell(0, 1), [(0, 0)] * 5)
        self.assertEqual(self.tell(0, 10 ** 399), [(0, 0)] * 5)
        self.assertEqual(self.tell(0, 3, Form(1, least=300, most=301)), [(0, 0)] * 5)

    def test_near_nought(self):
        least = (1, -6)
        self.assertEqual(self.tell(1, 10 ** 399), [(0, 0), least, (0, 0), (0, 0), least])
        self.assertEqual(self.tell(-1, 10 ** 399), [(0, 0), (0, 0), (-1, -6), (0, 0), (-1, -6)])
        self.assertEqual(self.tell(1, 128), [(0, 0), least, (0, 0), (0, 0), least])
        self.assertEqual(self.tell(3, 128), [(1, -5), (1, -5), least, least, (1, -5)])
        self.assertEqual(self.tell(-3, 128), [(-1, -5), (-1, -6), (-1, -5), (-1, -6), (-1, -5)])

    def test_midway_to_the_even_one(self):
        self.assertEqual(rounded(FORM, 33, 16), (1, 1))
        self.assertEqual(rounded(FORM, 17, 8), (1, 1))
        self.assertEqual(rounded(FORM, 19, 8), (5, -1))
        self.assertEqual(rounded(FORM, -19, 8), (-5, -1))
        self.assertEqual(rounded(FORM, 31, 16), (1, 1))
        self.assertEqual(rounded(FORM, 29, 16), (7, -2))
        self.assertEqual(rounded(Form(1, least=0, most=9), 3), (1, 2))
        self.assertEqual(rounded(Form(1, least=0, most=9), 6), (1, 3))
        self.assertEqual(rounded(Form(1, least=0, most=9), 3, 2), (1, 1))
        self.assertEqual(rounded(Form(1, least=0, most=9), 1, 2), (0, 0))

    def test_greatest_and_beyond(self):
        self.assertEqual(self.tell(15, 2), [(15, -1)] * 5)
        self.assertEqual(rounded(FORM, 31 * 10 ** 50 - 1, 4 * 10 ** 50), (15, -1))
        for top, bottom, way in ((31, 4, "near"), (31, 4, "up"), (31, 4, "out"), (8, 1, "in"), (8, 1, "down"),
                                 (76, 10, "up"), (85, 10, "in")):
            with self.assertRaises(TooGreat) as caught:
                rounded(FORM, top, bottom, way=way)
            self.assertEqual(caught.exception.number, (1, 3))
            mirrored = {"up": "down", "down": "up"}.get(way, way)
            with self.assertRaises(TooGreat) as caught:
                rounded(FORM, -top, bottom, way=mirrored)
            self.assertEqual(caught.exception.number, (-1, 3))
        self.assertEqual(rounded(FORM, -76, 10, way="up"), (-15, -1))
        self.assertEqual(rounded(FORM, 79, 10, way="in"), (15, -1))

    def test_too_great_is_told_by_the_free_step(self):
        with self.assertRaises(TooGreat) as caught:
            rounded(FORM, 1003)
        self.assertEqual(caught.exception.number, (1, 10))
        with self.assertRaises(TooGreat) as caught:
            rounded(FORM, 1003, way="down")
        self.assertEqual(caught.exception.number, (15, 6))

    def test_few_exponents(self):
        form = Form(200, least=-400, most=-399)
        self.assertEqual(rounded(form, 3, 2 ** 402), (1, -400))
        with self.assertRaises(TooGreat) as caught:
            rounded(form, 3, 2 ** 401)
        self.assertEqual(caught.exception.number, (1, -399))

    def test_great_sizes_soon(self):
        form = Form(200, least=-400, most=400)
        top, bottom = 10 ** 400 - 1, 10 ** 399 + 1
        for way in WAYS:
            told = told_soon(self, lambda: rounded(form, top, bottom, way=way))
            gap = Fraction(told[0]) * Fraction(2) ** told[1] - Fraction(top, bottom)
            self.assertLess(abs(gap), Fraction(2) ** -196)
            self.assertEqual(gap > 0, way in ("up", "out", "near"))
            with self.assertRaises(TooGreat):
                rounded(form, 10 ** 400 - 1, way=way)
        self.assertEqual(rounded(form, 2 ** 400 - 1, way="down"), (2 ** 200 - 1, 200))
        self.assertEqual(rounded(form, 1, 10 ** 400 - 1), (0, 0))


class Handing(unittest.TestCase):
    def test_defaults_and_names(self):
        self.assertEqual(rounded(FORM, 3), (3, 0))
        self.assertEqual(rounded(FORM, 1, 3), (11, -5))
        self.assertEqual(rounded(FORM, 1, 3, way="down"), (5, -4))
        self.assertEqual(rounded(way="down", bottom=3, top=1, form=FORM), (5, -4))
        self.assertEqual(rounded(form=FORM, top=3), (3, 0))
        with self.assertRaises(TypeError):
            rounded(FORM, 1, 3, "down")

    def test_no_form(self):
        for thing in NO_FORMS:
            with self.subTest(thing), self.assertRaises(NoForm):
                rounded(thing, 1)

    def test_no_way(self):
        for thing in NO_WAYS:
            with self.subTest(thing):
                with self.assertRaises(NoWord) as caught:
                    rounded(FORM, 1, way=thing)
                self.assertIs(caught.exception.word, thing)

    def test_no_whole_numbers(self):
        for thing in NO_WHOLES:
            with self.subTest(thing):
                self.assertRaises(NoNumber, rounded, FORM, thing)
                self.assertRaises(NoNumber, rounded, FORM, thing, 2)
                self.assertRaises(NoNumber, rounded, FORM, 1, thing)
                self.assertRaises(NoNumber, rounded, FORM, 0, thing)

    def test_bottom_above_nought(self):
        for bottom in (0, -1, -10 ** 399):
            for top in (0, 1, -1, 1000):
                self.assertRaises(NoNumber, rounded, FORM, top, bottom)

    def test_order_of_refusals(self):
        for top, bottom in ((None, 1), (1, 0), (1000, 1)):
            self.assertRaises(NoForm, rounded, None, top, bottom, way="sideways")
            self.assertRaises(NoForm, rounded, None, top, bottom)
            with self.assertRaises(NoWord) as caught:
                rounded(FORM, top, bottom, way="sideways")
            self.assertEqual(caught.exception.word, "sideways")
        self.assertRaises(NoNumber, rounded, FORM, 1000, False)

    def test_the_same_again(self):
        first = [rounded(FORM, top, 7, way=way) for way in WAYS for top in range(-40, 40)]
        self.assertEqual([rounded(FORM, top, 7, way=way) for way in WAYS for top in range(-40, 40)], first)
        self.assertEqual(FORM, Form(4, least=-6, most=3))
