"""Point 10: worths by three methods."""

import unittest
from fractions import Fraction
from itertools import combinations, product

from oncenear.dots import less, negated, number_of, plus
from oncenear.errors import NoNumber, NoPlace, NoWord
from oncenear.kept import Kept
from oncenear.stretches import Stretch
from oncenear.worths import exact_worth, is_exact, reckoned, worth_bounds
from tests.helpers import FORM, NO_NUMBERS, NO_WHOLES, STRANGE, STRETCH, told_soon, worth
from tests.oracle import floor_number, holds_about, pi_about, worth_about

FUNCTIONS = ("root", "exp", "log", "sin", "cos", "arc")
METHODS = ("series", "steps", "halves")
NO_WORDS = STRANGE + ["Root", "root ", "sqrt", "near", "five", "tan", "arcs", 0, 1, (1, 0), FORM, STRETCH]
NO_METHODS = STRANGE + ["Series", "steps ", "half", "near", "root", "five", 0, (1, 0), FORM, STRETCH]
NO_BITS = NO_WHOLES + [-1, 601, 10 ** 399, -10 ** 399]

TINY = (1, -800)
ONE = (1, 0)
ABOVE = [(1, -800), (3, -401), (5, -9), (1, -2), (5, -4), (11, -4), (181, -8), (3, -2), (1, 0), (5, -2), (363, -8),
         (3, -1), (13, -3), (1, 1), (7, 0), (355, -6), (125, 3), (10 ** 40 + 1, -3), (2 ** 800 - 1, -800),
         (2 ** 799 + 1, -799), (2 ** 799 - 1, -799), (2 ** 800 - 1, 0), (2 ** 600 + 1, -30)]
BOTH_SIDES = ABOVE + [negated(number) for number in ABOVE]
# As near to a multiple of pi, or of pi by 2, as 800 bits come.
BY_PI = [floor_number(Fraction(pi_about(1000)) * many / 2, power) for many, power in
         ((1, -799), (2, -798), (3, -797), (10 ** 60, -600), (10 ** 60 + 1, -600), (-7, -796))]
CASES = {
    "root": ABOVE + [(1, 800), (2 ** 800 - 1, 799), (3, 799)],
    "exp": [x for x in BOTH_SIDES if abs(worth(x)) <= 1000] + [less((125, 3), TINY), plus((-125, 3), TINY)],
    "log": ABOVE + [(1, 800), (3, 799), (2 ** 800 - 1, 800), (2 ** 800 - 1, -800)],
    "sin": BOTH_SIDES + BY_PI + [(1, 799), (2 ** 800 - 1, 0), (-1, 799)],
    "cos": BOTH_SIDES + BY_PI + [(1, 799), (2 ** 800 - 1, 0), (-1, 799)],
    "arc": BOTH_SIDES + [(1, 799), (2 ** 800 - 1, 0), (-1, 799), less(ONE, TINY), plus(ONE, TINY)],
}
NO_PLACES = {
    "root": [(-1, 0), (-1, -800), (1 - 2 ** 800, 800)],
    "exp": [plus((125, 3), TINY), less((-125, 3), TINY), (1001, 0), (-1001, 0), (1, 10), (1, 800), (-1, 4000)],
    "log": [(0, 0), (-1, 0), (-1, -800), (1 - 2 ** 800, 800)],
    "sin": [(1, 800), (-1, 800), plus((1, 800), TINY), (3, 799), (1, 4000), (-1, 4000)],
}
NO_PLACES["cos"] = NO_PLACES["arc"] = NO_PLACES["sin"]
EXACT = {
    "root": [((0, 0), (0, 0)), ((1, 0), (1, 0)), ((1, 2), (1, 1)), ((9, 0), (3, 0)), ((9, -2), (3, -1)),
             ((1, -800), (1, -400)), ((1, 4000), (1, 2000)), (((2 ** 400 - 1) ** 2, -798), (2 ** 400 - 1, -399)),
             (((2 ** 1999 + 1) ** 2, 0), (2 ** 1999 + 1, 0))],
    "exp": [((0, 0), (1, 0))],
    "log": [((1, 0), (0, 0))],
    "sin": [((0, 0), (0, 0))],
    "cos": [((0, 0), (1, 0))],
    "arc": [((0, 0), (0, 0))],
}


class Bounds(unittest.TestCase):
    def check(self, word, number, bits):
        """That all three stretches hold the worth, are narrow enough and have common parts."""
        true = worth_about(word, number)
        stretches = [worth_bounds(word, number, bits=bits, by=by) for by in METHODS]
        for by, stretch in zip(METHODS, stretches):
            with self.subTest(word=word, number=number, bits=bits, by=by):
                self.assertIsInstance(stretch, Stretch)
                self.assertTrue(holds_about(stretch, true))
                self.assertLessEqual(worth(stretch.width()), Fraction(1, 2 ** bits))
        for one, other in combinations(stretches, 2):
            self.assertIsNotNone(one.common(other))

    def test_each_function_by_each_method(self):
        for word in FUNCTIONS:
            for number, bits in product(CASES[word], (0, 1, 20, 200, 600)):
                self.check(word, number, bits)

    def test_the_methods_are_off_by_no_more_than_they_count(self):
        # The ends that a method itself tells lie much nearer to the worth than those of the stretch.
        for word in FUNCTIONS:
            numbers = [number for number in CASES[word] if not is_exact(word, number)]
            for number, bits, by in product(numbers, (-40, 0, 13, 150, 600), METHODS):
                low, high, power = reckoned(word, number, bits, by, Kept())
                true, unit = worth_about(word, number), Fraction(2) ** power
                with self.subTest(word=word, number=number, bits=bits, by=by):
                    self.assertTrue(low * unit <= true <= high * unit)

    def test_many_bits(self):
        for word in FUNCTIONS:
            for bits in list(range(2, 70)) + [127, 128, 255, 256, 511, 512, 599]:
                self.check(word, (13, -3), bits)
                self.check(word, (3, -2), bits)

    def test_ordinary_numbers(self):
        for word, m, e in product(FUNCTIONS, (1, 3, 5, 11, 77, -1, -3, -7, -99), range(-7, 4)):
            if m > 0 or word not in ("root", "log"):
                self.check(word, (m, e), 30)

    def test_different_bits_have_common_parts(self):
        for word in FUNCTIONS:
            stretches = [worth_bounds(word, (77, -5), bits=bits, by=by) for bits in (0, 3, 50, 600) for by in METHODS]
            for one, other in combinations(stretches, 2):
                self.assertIsNotNone(one.common(other))

    def test_exact_worths_are_held(self):
        for word in FUNCTIONS:
            for (number, exact), bits, by in product(EXACT[word], (0, 7, 600), METHODS):
                stretch = worth_bounds(word, number, bits=bits, by=by)
                self.assertTrue(stretch.holds(exact))
                self.assertLessEqual(worth(stretch.width()), Fraction(1, 2 ** bits))

    def test_told_numbers_soon(self):
        # What was told may have 4000 bits and exponents.
        great = {"root": [(2 ** 4000 - 1, 3999), (2 ** 3999 + 1, -3999), (3, -3999)],
                 "log": [(2 ** 4000 - 1, 4000), (2 ** 3999 + 1, -3999), (3, -4000)],
                 "exp": [(2 ** 4000 - 1, -4000), (-3, -4000), (2 ** 3999 + 1, -3990)]}
        others = [(2 ** 4000 - 1, -4000), (3, -4000), (2 ** 3999 + 1, -3201)]
        for word in FUNCTIONS:
            for number, by in product(great.get(word, others), METHODS):
                stretch = told_soon(self, lambda: worth_bounds(word, number, bits=600, by=by), 1)
                self.assertTrue(holds_about(stretch, worth_about(word, number, 3000), 3000))

    def test_soon(self):
        for word, by in product(FUNCTIONS, METHODS):
            numbers = [CASES[word][0], CASES[word][-1], (125, 3), (-125, 3) if word in ("exp", "sin") else (125, -9)]
            told_soon(self, lambda: [worth_bounds(word, number, bits=600, by=by) for number in numbers * 3], 3)


class Exact(unittest.TestCase):
    def test_exact_ones(self):
        for word in FUNCTIONS:
            for number, exact in EXACT[word]:
                with self.subTest(word=word, number=number):
                    self.assertIs(is_exact(word, number), True)
                    self.assertEqual(exact_worth(word, number), exact)

    def test_all_others(self):
        for word in FUNCTIONS:
            exact = dict(EXACT[word])
            for number in CASES[word]:
                if number not in exact and not (word == "root" and is_square(number)):
                    with self.subTest(word=word, number=number):
                        self.assertIs(is_exact(word, number), False)
                        self.assertIsNone(exact_worth(word, number))

    def test_beside_the_exact_ones(self):
        for word in FUNCTIONS:
            for (number, exact), far in product(EXACT[word], (TINY, (-1, -800), (1, -9), (-1, -9))):
                other = plus(number, far)
                on_both_sides = word in ("sin", "cos", "arc", "exp")
                if on_both_sides or worth(other) > 0 and not (word == "root" and is_square(other)):
                    self.assertIs(is_exact(word, other), False)
                    self.assertIsNone(exact_worth(word, other))

    def test_small_roots(self):
        squares = {number_of(m * m, 2 * e): number_of(m, e) for m in range(0, 60) for e in range(-6, 7)}
        for m, e in product(range(0, 500), range(-3, 4)):
            number = number_of(m, e)
            self.assertEqual(exact_worth("root", number), squares.get(number))

    def test_by_names(self):
        self.assertIs(is_exact(number=(9, 0), word="root"), True)
        self.assertEqual(exact_worth(number=(9, 0), word="root"), (3, 0))


def is_square(number):
    """Whether a number from 0 on is the square of a number, by trial of its root's neighbours."""
    m, e = number
    root = int(worth_about("root", (m, 0) if m else (0, 0)))
    return e % 2 == 0 and any((root + far) ** 2 == m for far in (-1, 0, 1))


class Handing(unittest.TestCase):
    def test_defaults_and_names(self):
        told = worth_bounds("exp", (3, -1), bits=40)
        self.assertEqual(worth_bounds(by="series", bits=40, number=(3, -1), word="exp"), told)
        self.assertEqual(worth_bounds("exp", (3, -1), bits=40), told)
        for arguments in (("exp", (3, -1)), ("exp", (3, -1), 40), ("exp", (3, -1), 40, "series")):
            self.assertRaises(TypeError, worth_bounds, *arguments)

    def test_bounds_of_bits(self):
        for word, by in product(FUNCTIONS, METHODS):
            for bits in (0, 600):
                self.assertIsInstance(worth_bounds(word, (3, 0), bits=bits, by=by), Stretch)
            for bits in NO_BITS:
                with self.subTest(word=word, by=by, bits=bits):
                    self.assertRaises(NoNumber, worth_bounds, word, (3, 0), bits=bits, by=by)

    def test_places(self):
        for word in FUNCTIONS:
            for number in CASES[word]:
                self.assertIn(is_exact(word, number), (True, False))
        for number in ((125, 3), (-125, 3)):
            self.assertIs(is_exact("exp", number), False)
        for word in ("sin", "cos", "arc"):
            for number in (less((1, 800), (1, -800)), plus((-1, 800), (1, -800)), (2 ** 800 - 1, 0)):
                self.assertIs(is_exact(word, number), False)

    def test_no_places(self):
        for word in FUNCTIONS:
            for number in NO_PLACES[word]:
                for ask in (is_exact, exact_worth, lambda word, number: worth_bounds(word, number, bits=9, by="steps")):
                    with self.subTest(word=word, number=number):
                        with self.assertRaises(NoPlace) as caught:
                            ask(word, number)
                        self.assertEqual(vars(caught.exception), {"word": word, "number": number})

    def test_no_word(self):
        for thing in NO_WORDS:
            for ask in (is_exact, exact_worth, lambda word, number: worth_bounds(word, number, bits=9),
                        lambda word, number: worth_bounds(word, number, bits=-1, by="none")):
                for number in ((3, 0), (2, 0), None):
                    with self.assertRaises(NoWord) as caught:
                        ask(thing, number)
                    self.assertIs(caught.exception.word, thing)

    def test_no_method(self):
        for thing, number, bits in product(NO_METHODS, ((3, 0), (-1, 0), 3), (9, 601)):
            with self.subTest(thing):
                with self.assertRaises(NoWord) as caught:
                    worth_bounds("root", number, bits=bits, by=thing)
                self.assertIs(caught.exception.word, thing)

    def test_no_number(self):
        for thing, word in product(NO_NUMBERS, FUNCTIONS):
            with self.subTest(thing=thing, word=word):
                self.assertRaises(NoNumber, is_exact, word, thing)
                self.assertRaises(NoNumber, exact_worth, word, thing)
                self.assertRaises(NoNumber, worth_bounds, word, thing, bits=9)
                self.assertRaises(NoNumber, worth_bounds, word, thing, bits=-1)

    def test_bits_ahead_of_places(self):
        for word in FUNCTIONS:
            for number, bits in product(NO_PLACES[word], (-1, 601, False, None)):
                self.assertRaises(NoNumber, worth_bounds, word, number, bits=bits)

    def test_the_same_again(self):
        for word, by in product(FUNCTIONS, METHODS):
            first = worth_bounds(word, (77, -4), bits=77, by=by)
            worth_bounds(word, (75, -4), bits=600, by=by)
            self.assertEqual(worth_bounds(word, (77, -4), bits=77, by=by), first)
