"""Point 6: forms."""

import unittest
from fractions import Fraction

from oncenear.dots import less, number_of, order_of, plus
from oncenear.errors import NoForm, NoNumber, TooMany
from oncenear.rounding import Form
from tests.helpers import FORM, NO_NUMBERS, NO_WHOLES, SMALL_FORMS, STRETCH
from tests.helpers import number_from, step_at, told_soon, worth, worths_of_form

GREATEST = Form(200, least=-400, most=400)


def probes(form):
    """Numbers on, between and just beside those of a form, and beyond its ends."""
    worths = worths_of_form(form)
    ends = [worths[0] - Fraction(2) ** (form.least - 1), worths[-1] + Fraction(2) ** (form.least - 1),
            Fraction(2) ** form.most, -Fraction(2) ** form.most, Fraction(5) * Fraction(2) ** form.most]
    mids = [(low + high) / 2 for low, high in zip(worths, worths[1:])]
    tiny = Fraction(2) ** -30
    return [x + beside for x in worths + mids + ends for beside in (-tiny, Fraction(0), tiny)]


class Making(unittest.TestCase):
    def test_bounds(self):
        for bits, least, most in ((1, -400, -399), (200, -400, 400), (1, 300, 301), (200, 300, 400), (1, -400, 400)):
            form = Form(bits, least=least, most=most)
            self.assertEqual((form.bits, form.least, form.most), (bits, least, most))

    def test_beyond_the_bounds(self):
        wrong = [(0, 0, 1), (-1, 0, 1), (201, 0, 1), (4, -401, 0), (4, 301, 302), (4, 0, 0), (4, 0, -1),
                 (4, 0, 401), (4, 300, 300), (4, 300, 401), (0, 500, 0), (4, -400, -400), (10 ** 399, 0, 1)]
        for bits, least, most in wrong:
            with self.subTest(bits=bits, least=least, most=most), self.assertRaises(NoForm):
                Form(bits, least=least, most=most)

    def test_no_whole_numbers(self):
        for thing in NO_WHOLES:
            with self.subTest(thing):
                for bits, least, most in ((thing, 0, 2), (4, thing, 2), (4, 0, thing), (4, -1, thing),
                                          (thing, thing, thing)):
                    with self.assertRaises(NoForm):
                        Form(bits, least=least, most=most)

    def test_by_names(self):
        self.assertEqual(Form(most=3, least=-6, bits=4), FORM)
        with self.assertRaises(TypeError):
            Form(4, -6, 3)
        with self.assertRaises(TypeError):
            Form(4, least=-6)

    def test_equal(self):
        self.assertTrue(Form(4, least=-6, most=3) == FORM)
        self.assertFalse(Form(4, least=-6, most=3) != FORM)
        others = [Form(5, least=-6, most=3), Form(4, least=-5, most=3), Form(4, least=-6, most=4), STRETCH,
                  None, True, 4, "Form(4, least=-6, most=3)", (4, -6, 3), [FORM]]
        for other in others:
            self.assertIs(FORM == other, False)
            self.assertIs(other == FORM, False)
            self.assertIs(FORM != other, True)

    def test_repr(self):
        self.assertEqual(repr(FORM), "Form(4, least=-6, most=3)")
        self.assertEqual(repr(Form(200, least=300, most=400)), "Form(200, least=300, most=400)")


class SmallForms(unittest.TestCase):
    def test_numbers_count_and_top(self):
        for form in SMALL_FORMS:
            told = [number_from(x) for x in worths_of_form(form)]
            with self.subTest(form):
                self.assertEqual(form.numbers(), told)
                self.assertEqual(form.count(), len(told))
                self.assertEqual(form.top(), told[-1])

    def test_has(self):
        for form in SMALL_FORMS:
            worths = set(worths_of_form(form))
            for x in probes(form):
                with self.subTest(form=form, x=x):
                    self.assertIs(form.has(number_from(x)), x in worths)

    def test_above_and_below(self):
        for form in SMALL_FORMS:
            worths = worths_of_form(form)
            for x in probes(form):
                above = [number_from(y) for y in worths if y > x][:1] or [None]
                below = [number_from(y) for y in worths if y < x][-1:] or [None]
                with self.subTest(form=form, x=x):
                    self.assertEqual(form.above(number_from(x)), above[0])
                    self.assertEqual(form.below(number_from(x)), below[0])

    def test_step(self):
        for form in SMALL_FORMS:
            for x in probes(form):
                with self.subTest(form=form, x=x):
                    self.assertEqual(form.step(number_from(x)), number_from(step_at(form, x)))

    def test_step_beside_the_bend(self):
        bend = number_of(1, FORM.least + FORM.bits)
        self.assertEqual(FORM.step((0, 0)), (1, -6))
        self.assertEqual(FORM.step(less(bend, (1, -800))), (1, -6))
        self.assertEqual(FORM.step(bend), (1, -5))
        self.assertEqual(FORM.step(plus(bend, (1, -800))), (1, -5))
        self.assertEqual(FORM.step((-1, FORM.least + FORM.bits)), (1, -5))
        self.assertEqual(FORM.step((1, 800)), (1, 797))

    def test_by_names(self):
        self.assertIs(FORM.has(number=(1, -6)), True)
        self.assertEqual(FORM.above(number=(0, 0)), (1, -6))
        self.assertEqual(FORM.below(number=(0, 0)), (-1, -6))
        self.assertEqual(FORM.step(number=(0, 0)), (1, -6))

    def test_no_numbers(self):
        for thing in NO_NUMBERS:
            with self.subTest(thing):
                for method in (FORM.has, FORM.above, FORM.below, FORM.step):
                    self.assertRaises(NoNumber, method, thing)


class Many(unittest.TestCase):
    def test_just_few_enough(self):
        form = Form(1, least=-400, most=99)
        self.assertEqual(form.count(), 999)
        numbers = form.numbers()
        self.assertEqual(len(numbers), 999)
        self.assertEqual(numbers[:2] + numbers[498:501] + numbers[-1:],
                         [(-1, 98), (-1, 97), (-1, -400), (0, 0), (1, -400), (1, 98)])

    def test_just_too_many(self):
        with self.assertRaises(TooMany) as caught:
            Form(1, least=-400, most=100).numbers()
        self.assertEqual(caught.exception.many, 1001)

    def test_far_too_many(self):
        with self.assertRaises(TooMany) as caught:
            told_soon(self, GREATEST.numbers)
        self.assertEqual(caught.exception.many, GREATEST.count())

    def test_lists_are_the_askers_own(self):
        first = FORM.numbers()
        kept = list(first)
        first.reverse()
        first.append(None)
        self.assertEqual(FORM.numbers(), kept)
        self.assertEqual(first[-1], None)


class GreatForms(unittest.TestCase):
    def test_count_and_top_soon(self):
        self.assertEqual(told_soon(self, GREATEST.count), 2 * (2 ** 200 - 1 + 600 * 2 ** 199) + 1)
        self.assertEqual(told_soon(self, GREATEST.top), (2 ** 200 - 1, 200))
        self.assertEqual(Form(200, least=300, most=400).count(), 2 * (2 ** 100 - 1) + 1)
        self.assertEqual(Form(200, least=300, most=400).top(), (2 ** 100 - 1, 300))
        self.assertEqual(Form(100, least=300, most=400).top(), (2 ** 100 - 1, 300))
        self.assertEqual(Form(1, least=-400, most=400).count(), 1601)
        self.assertEqual(Form(200, least=-400, most=-399).count(), 3)

    def test_has_at_the_bounds(self):
        self.assertIs(GREATEST.has((2 ** 200 - 1, 200)), True)
        self.assertIs(GREATEST.has((2 ** 200 - 1, 201)), False)
        self.assertIs(GREATEST.has((2 ** 200 + 1, 0)), False)
        self.assertIs(GREATEST.has((-1, -400)), True)
        self.assertIs(GREATEST.has((1, -401)), False)
        self.assertIs(GREATEST.has((1, 399)), True)
        self.assertIs(GREATEST.has((-1, 400)), False)
        self.assertIs(Form(4, least=300, most=400).has((0, 0)), True)
        self.assertIs(GREATEST.has((2 ** 3999 + 1, -4000)), False)

    def test_above_and_below_soon(self):
        top = GREATEST.top()
        tiny = (1, -4000)
        for number, above, below in (
                ((0, 0), (1, -400), (-1, -400)), (tiny, (1, -400), (0, 0)), ((-1, -4000), (0, 0), (-1, -400)),
                (top, None, (2 ** 199 - 1, 201)), (plus(top, tiny), None, top), (less(top, tiny), top, (2 ** 199 - 1, 201)),
                ((1, 4000), None, top), ((-1, 4000), (1 - 2 ** 200, 200), None),
                ((1, 100), (2 ** 199 + 1, -99), (2 ** 200 - 1, -100)),
                ((-1, 100), (1 - 2 ** 200, -100), (-2 ** 199 - 1, -99)),
                ((2 ** 3999 + 1, -3999), (2 ** 199 + 1, -199), (1, 0))):
            with self.subTest(number):
                self.assertEqual(told_soon(self, lambda: GREATEST.above(number)), above)
                self.assertEqual(told_soon(self, lambda: GREATEST.below(number)), below)

    def test_step_soon(self):
        self.assertEqual(told_soon(self, lambda: GREATEST.step((1, 4000))), (1, 3801))
        self.assertEqual(told_soon(self, lambda: GREATEST.step((2 ** 4000 - 1, -4000))), (1, -200))
        self.assertEqual(GREATEST.step((1, -4000)), (1, -400))
        self.assertEqual(GREATEST.step((1, -200)), (1, -399))
        self.assertEqual(GREATEST.step((2 ** 800 - 1, -1000)), (1, -400))

    def test_above_then_below_comes_back(self):
        for number in ((1, -400), (3, -100), (1, 0), (-1, 0), (2 ** 200 - 1, 0), (1, 399)):
            self.assertEqual(GREATEST.below(GREATEST.above(number)), number)
            gap = less(GREATEST.above(number), number)
            self.assertLessEqual(order_of(gap, GREATEST.step(number)), 0)
            self.assertEqual(worth(gap) in (worth(GREATEST.step(number)), worth(GREATEST.step(number)) / 2), True)
