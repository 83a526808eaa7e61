"""Point 11: walks."""

import unittest
from fractions import Fraction
from itertools import product
from math import factorial

from oncenear.dots import less, negated, number_of, plus
from oncenear.errors import NoNumber, NoPlace, NoWord
from oncenear.stretches import Stretch
from oncenear.walks import series_rest, series_sum, steps_of
from tests.helpers import FORM, NO_NUMBERS, NO_WHOLES, STRANGE, STRETCH, told_soon, worth
from tests.oracle import floor_number, worth_about

SERIES = ("exp", "log", "sin", "cos", "arc")
STEPS = ("exp", "log", "arc")
TINY = (1, -800)
NO_WORDS = STRANGE + ["root", "Exp", "exp ", "near", "series", "steps", 0, (1, 0), FORM, STRETCH]
MANY = (1, 2, 3, 4, 7, 20, 59, 60)

ABOVE = [(1, -40), (1, -9), (1, -3), (3, -4), (1, -2), (11, -5), (1, -1), (75, -7), (45, -6), (2 ** 40 - 1, -40),
         (1, 0)]
BEYOND = [(3, -1), (1, 1), (9, 0), (225, -3), (1, 6)]
CASES = {
    "exp": [(0, 0)] + ABOVE + [negated(x) for x in ABOVE + BEYOND] + BEYOND + [(125, 3), (-125, 3)],
    "log": ABOVE[3:] + BEYOND + [(1, -1), (2 ** 60 + 1, -60), (2 ** 60 - 1, -60), (3, -20), (5, 40), (63, 0)],
    "arc": [(0, 0)] + ABOVE + [negated(x) for x in ABOVE],
}
CASES["sin"] = CASES["cos"] = CASES["exp"]
NO_PLACES = {
    "exp": [(1001, 0), (-1001, 0), plus((125, 3), TINY), (1, 800)],
    "log": [(0, 0), (-1, 0), (-1, -800)],
    "sin": [(1, 800), (-1, 800)],
    "cos": [(1, 800), (-1, 800)],
    "arc": [(3, -1), plus((1, 0), TINY), less((-1, 0), TINY), (-1, 1), (1, 799), (1, 800)],
}
NO_STEP_PLACES = {
    "exp": [(-1, -800), (-1, -1), (3, -2), plus((1, -1), TINY), (1, 0), (1001, 0)],
    "log": [(0, 0), less((1, 0), TINY), (1, -1), plus((1, 1), TINY), (3, 0), (-3, -1)],
    "arc": [(-1, -800), (-1, 0), plus((1, 0), TINY), (3, -1), (1, 800)],
}


def term(word, number, place):
    """The term of a series that so many are ahead of, by point 11's own words."""
    x = worth(number)
    if word == "exp":
        return x ** place / factorial(place)
    k = 2 * place + (0 if word == "cos" else 1)
    if word == "log":
        return 2 * ((x - 1) / (x + 1)) ** k / k
    return (-1) ** place * x ** k / (k if word == "arc" else factorial(k))


class Sums(unittest.TestCase):
    def test_against_fractions(self):
        for word in SERIES:
            for number in CASES[word]:
                total, done = Fraction(0), 0
                for many in MANY:
                    total += sum(term(word, number, place) for place in range(done, many))
                    done = many
                    with self.subTest(word=word, number=number, many=many):
                        self.assertEqual(series_sum(word, number, many), (total.numerator, total.denominator))

    def test_bottoms_with_primes_of_the_terms(self):
        # Top and bottom have primes in common, of each k and of the number, too.
        for word, m, e, many in product(SERIES, (3, 15, 105, 2 ** 9 - 1, 2 ** 12 - 1), (-1, 0, -9, -12), (5, 9, 30)):
            number = number_of(m, e)
            if worth(number) > {"arc": 1, "exp": 1000}.get(word, 5000):
                continue
            total = sum(term(word, number, place) for place in range(many))
            self.assertEqual(series_sum(word, number, many), (total.numerator, total.denominator))

    def test_named_ones(self):
        self.assertEqual(series_sum("exp", (1, 0), 4), (8, 3))
        self.assertEqual(series_sum("exp", (0, 0), 60), (1, 1))
        self.assertEqual(series_sum("sin", (0, 0), 7), (0, 1))
        self.assertEqual(series_sum("cos", (0, 0), 7), (1, 1))
        self.assertEqual(series_sum("log", (1, 0), 7), (0, 1))
        self.assertEqual(series_sum("log", (1, 1), 1), (2, 3))
        self.assertEqual(series_sum("arc", (-1, 0), 2), (-2, 3))
        self.assertEqual(series_sum("sin", (-1, 1), 2), (-2, 3))
        self.assertIsInstance(series_sum("exp", (1, 0), 1), tuple)

    def test_great_numbers_soon(self):
        great = {"exp": [(2 ** 800 - 1, -791), (3, -800)], "arc": [(2 ** 800 - 1, -800), (1 - 2 ** 800, -800)],
                 "log": [(2 ** 800 - 1, 800), (2 ** 799 + 1, -799), (3, -800)]}
        for word in SERIES:
            for number in great.get(word, [(2 ** 800 - 1, -3), (2 ** 800 - 1, 0), (3, -800)]):
                top, bottom = told_soon(self, lambda: series_sum(word, number, 60), 1)
                total = sum(term(word, number, place) for place in range(60))
                self.assertTrue(top == total.numerator and bottom == total.denominator)
                told_soon(self, lambda: series_rest(word, number, 60), 1)


class Rests(unittest.TestCase):
    def check(self, word, number, many, digits):
        """That the rest holds what is left, is narrow enough and has short ends."""
        rest = series_rest(word, number, many)
        self.assertIsInstance(rest, Stretch)
        low, high = worth(rest.low), worth(rest.high)
        self.assertTrue(abs(rest.low[0]) < 2 ** 64 and abs(rest.high[0]) < 2 ** 64)
        total = Fraction(*series_sum(word, number, many))
        left = worth_about(word, number, digits) - total
        off = (1 + abs(left + total)) / Fraction(10) ** digits
        self.assertTrue(low <= left + off and left - off <= high)
        least, most = (Fraction(1, 2), 2) if word == "log" else (-1, 1)
        if least <= worth(number) <= most:
            size = abs(term(word, number, many))
            self.assertLessEqual(high - low, 4 * size + size / 2 ** 60)

    def test_each_series(self):
        for word in SERIES:
            for number, many in product(CASES[word], MANY):
                with self.subTest(word=word, number=number, many=many):
                    self.check(word, number, many, 1600)

    def test_nothing_left(self):
        nought = Stretch((0, 0), (0, 0))
        for many in MANY:
            for word in ("exp", "sin", "cos", "arc"):
                self.assertEqual(series_rest(word, (0, 0), many), nought)
            self.assertEqual(series_rest("log", (1, 0), many), nought)

    def test_beyond_those_places(self):
        for word, number in (("sin", (1, 700)), ("cos", (-3, 300)), ("log", (1, 800)), ("log", (3, -800))):
            for many in (1, 2, 60):
                self.check(word, number, many, 1000)


class Steps(unittest.TestCase):
    NUMBERS = [number_of(m, -6) for m in range(0, 65)] + [TINY, (3, -300), (2 ** 799 - 1, -800), (10 ** 30 + 1, -101)]

    def test_log_by_its_own_words(self):
        for number in [plus(x, (1, 0)) for x in self.NUMBERS]:
            y, steps = worth(number), []
            for i in range(1, 31):
                if y * (1 + Fraction(1, 2 ** i)) <= 2:
                    y *= 1 + Fraction(1, 2 ** i)
                    steps.append(i)
            self.check_many("log", number, steps, 30)

    def test_arc_by_its_own_words(self):
        for number in self.NUMBERS:
            x, y, steps = Fraction(1), worth(number), []
            for i in range(1, 31):
                if y >= x / 2 ** i:
                    x, y = x + y / 2 ** i, y - x / 2 ** i
                    steps.append(i)
            self.check_many("arc", number, steps, 30)

    def test_exp_by_its_own_words(self):
        logs = {i: worth_about("log", number_of(2 ** i + 1, -i)) for i in range(1, 31)}
        for number in self.NUMBERS:
            if worth(number) > Fraction(1, 2):
                continue
            left, steps = worth(number), []
            for i in range(1, 31):
                if left >= logs[i]:
                    left -= logs[i]
                    steps.append(i)
            self.check_many("exp", number, steps, 30)

    def check_many(self, word, number, steps, most):
        """That for each many up to most the steps up to it are told."""
        for many in (1, 2, 3, 10, most):
            with self.subTest(word=word, number=number, many=many):
                self.assertEqual(steps_of(word, number, many), [i for i in steps if i <= many])

    def test_what_the_products_are_near_to(self):
        for number, many in product(self.NUMBERS, (1, 2, 9, 60, 200)):
            last = 1 + Fraction(1, 2 ** many)
            above = plus(number, (1, 0))
            found = 2 / self.product_of(steps_of("log", above, many))
            self.assertTrue(worth(above) <= found < worth(above) * last)
            if worth(number) <= Fraction(1, 2):
                found = self.product_of(steps_of("exp", number, many))
                self.assertTrue(found <= worth_about("exp", number) < found * last or number == (0, 0) and found == 1)

    @staticmethod
    def product_of(steps):
        """The product of 1 + 2 ** -i over the steps."""
        total = Fraction(1)
        for i in steps:
            total *= 1 + Fraction(1, 2 ** i)
        return total

    def test_hard_beside_a_product(self):
        # The logarithm of a product of two steps, cut and raised at 799 bits: the last one is just not due, and just due.
        true = worth_about("log", number_of(5 * 17, -6))
        low = floor_number(true, -799)
        self.assertEqual(steps_of("exp", low, 4), [2])
        self.assertEqual(steps_of("exp", plus(low, (1, -799)), 4), [2, 4])
        self.assertEqual(steps_of("exp", plus(low, (1, -799)), 200), [2, 4])

    def test_edges(self):
        self.assertEqual(steps_of("log", (1, 1), 200), [])
        self.assertEqual(steps_of("log", less((1, 1), TINY), 200), [])
        self.assertEqual(steps_of("log", (1, 0), 60), [1, 2, 4, 8, 16, 32])
        self.assertEqual(steps_of("arc", (0, 0), 200), [])
        self.assertEqual(steps_of("arc", (1, 0), 3), [1, 2])
        self.assertEqual(steps_of("arc", (1, -200), 200), [200])
        self.assertEqual(steps_of("exp", (0, 0), 200), [])
        self.assertEqual(steps_of("exp", TINY, 200), [])
        self.assertEqual(steps_of("exp", (1, -1), 5), [1, 4, 5])

    def test_soon(self):
        numbers = {"exp": (2 ** 799 - 1, -800), "log": (2 ** 800 - 1, -799), "arc": (2 ** 800 - 1, -800)}
        for word in STEPS:
            told_soon(self, lambda: [steps_of(word, numbers[word], 200) for _ in range(20)])

    def test_lists_are_the_askers_own(self):
        for word, number in (("exp", (3, -3)), ("log", (9, -3)), ("arc", (5, -3))):
            first = steps_of(word, number, 40)
            kept = list(first)
            first.reverse()
            first.append(None)
            self.assertEqual(steps_of(word, number, 40), kept)


class Handing(unittest.TestCase):
    def test_names(self):
        self.assertEqual(series_sum(many=4, number=(1, 0), word="exp"), (8, 3))
        self.assertEqual(series_rest(many=4, number=(1, 0), word="exp"), series_rest("exp", (1, 0), 4))
        self.assertEqual(steps_of(many=9, number=(1, 0), word="log"), [1, 2, 4, 8])

    def test_no_word(self):
        for ask, more in ((series_sum, []), (series_rest, []), (steps_of, ["sin", "cos"])):
            for thing, number, many in product(NO_WORDS + more, ((1, -1), (2, 0)), (5, 0, 201)):
                with self.subTest(ask=ask.__name__, thing=thing):
                    with self.assertRaises(NoWord) as caught:
                        ask(thing, number, many)
                    self.assertIs(caught.exception.word, thing)

    def test_no_number(self):
        for ask, words in ((series_sum, SERIES), (series_rest, SERIES), (steps_of, STEPS)):
            for thing, word in product(NO_NUMBERS, words):
                for many in (5, 0, None):
                    self.assertRaises(NoNumber, ask, word, thing, many)

    def test_no_many(self):
        for word, number in (("exp", (1, -2)), ("log", (3, -1)), ("arc", (1, -1)), ("sin", (1, 0)), ("cos", (1, 0)),
                             ("exp", (1001, 0)), ("log", (0, 0)), ("arc", (3, 0))):
            for thing in NO_WHOLES + [0, -1, 61, 10 ** 399]:
                self.assertRaises(NoNumber, series_sum, word, number, thing)
                self.assertRaises(NoNumber, series_rest, word, number, thing)
            if word in STEPS:
                for thing in NO_WHOLES + [0, -1, 201, 10 ** 399]:
                    self.assertRaises(NoNumber, steps_of, word, number, thing)

    def test_no_places(self):
        asks = [(series_sum, NO_PLACES), (series_rest, NO_PLACES), (steps_of, NO_STEP_PLACES)]
        for ask, places in asks:
            for word in places:
                for number, many in product(places[word], (1, 60)):
                    with self.subTest(ask=ask.__name__, word=word, number=number):
                        with self.assertRaises(NoPlace) as caught:
                            ask(word, number, many)
                        self.assertEqual(vars(caught.exception), {"word": word, "number": number})

    def test_the_same_again(self):
        for word in SERIES:
            self.assertEqual(series_rest(word, (3, -2), 9), series_rest(word, (3, -2), 9))
