"""Points 12 and 13: worths told once, and tables."""

import random
import unittest
from fractions import Fraction
from itertools import product

from oncenear.dots import less, negated, number_of, order_of, plus, times
from oncenear.errors import NoForm, NoNumber, NoPlace, NoWord, TooGreat, TooMany
from oncenear.rounding import Form, rounded
from oncenear.stretches import Stretch
from oncenear.telling import judge_shown, shown, table, told
from oncenear.worths import exact_worth
from tests.helpers import FORM, NO_FORMS, NO_NUMBERS, NO_STRETCHES, NO_WAYS, STRETCH
from tests.helpers import number_from, rounded_among, told_soon, worth, worths_of_form
from tests.oracle import floor_number, worth_about
from tests.test_worths import CASES, EXACT, FUNCTIONS, METHODS, NO_METHODS, NO_PLACES, NO_WORDS

WAYS = ("near", "up", "down", "in", "out")
TINY = (1, -800)
GREAT = Form(200, least=-400, most=400)
FORMS = [FORM, Form(1, least=-400, most=400), Form(1, least=0, most=1), Form(2, least=-9, most=9), GREAT,
         Form(53, least=-300, most=300), Form(24, least=-20, most=-3), Form(200, least=300, most=400),
         Form(7, least=-400, most=-399)]


def free(form, fraction, way):
    """What a fraction is rounded to, as if there were no greatest exponent."""
    try:
        return rounded(Form(form.bits, least=form.least, most=400), fraction.numerator, fraction.denominator, way=way)
    except TooGreat as refusal:
        return refusal.number


def true_worth(word, number):
    """The worth: itself where it is exact, else to 800 figures."""
    exact = exact_worth(word, number)
    return worth_about(word, number) if exact is None else worth(exact)


def told_or_too_great(form, word, number, **more):
    """What is told, or the field of the refusal with TooGreat."""
    try:
        return told(form, word, number, **more)
    except TooGreat as refusal:
        return refusal.number


class Told(unittest.TestCase):
    def check(self, form, word, number, way):
        """That all methods tell what the worth is rounded to, or that it is too great."""
        answer = free(form, true_worth(word, number), way)
        for by in METHODS:
            with self.subTest(form=form, word=word, number=number, way=way, by=by):
                if form.has(answer):
                    self.assertEqual(told(form, word, number, way=way, by=by), answer)
                else:
                    with self.assertRaises(TooGreat) as caught:
                        told(form, word, number, way=way, by=by)
                    self.assertEqual(vars(caught.exception), {"number": answer})
                self.check_shown(form, word, number, way, by, answer)

    def check_shown(self, form, word, number, way, by, answer):
        """That the stretch that is shown holds the worth, and is rounded to the answer."""
        stretch = shown(form, word, number, way=way, by=by)
        self.assertIsInstance(stretch, Stretch)
        self.assertTrue(worth(stretch.low) <= true_worth(word, number) <= worth(stretch.high))
        for end in (stretch.low, stretch.high):
            self.assertEqual(free(form, worth(end), way), answer)
        exact = exact_worth(word, number)
        if exact is not None:
            self.assertEqual(stretch, Stretch(exact, exact))
        self.assertIs(judge_shown(form, word, number, stretch, way=way), True)

    def test_each_function_way_and_method(self):
        for word in FUNCTIONS:
            for number, form, way in product(CASES[word], FORMS, WAYS):
                self.check(form, word, number, way)

    def test_exact_worths(self):
        for word in FUNCTIONS:
            for (number, exact), form, way in product(EXACT[word], FORMS, WAYS):
                self.check(form, word, number, way)

    def test_hard_beside_easy_numbers(self):
        hard = [("cos", (1, -800)), ("exp", (1, -800)), ("exp", (-1, -800)), ("sin", (1, -401)), ("sin", (-1, -401)),
                ("arc", (1, -401)), ("sin", (1, -400)), ("arc", (-1, -400)), ("log", plus((1, 0), TINY)),
                ("log", less((1, 0), TINY)), ("root", plus((1, 0), TINY)), ("root", less((1, 0), TINY)),
                ("root", plus((9, 0), TINY)), ("root", less((225, -8), TINY)), ("log", plus((1, 0), (1, -399))),
                ("cos", (3, -100)), ("sin", (1, -300)), ("arc", (3, -300)), ("exp", (1, -200)), ("exp", (-1, -201))]
        for (word, number), form, way in product(hard, FORMS, WAYS):
            self.check(form, word, number, way)

    def test_hard_beside_borders(self):
        form = Form(9, least=-40, most=40)
        for border in ((257, -8), (259, -9), (513, -9), (515, -10), (1, -1)):
            at = {"exp": worth_about("log", border), "log": worth_about("exp", border),
                  "arc": worth_about("sin", border) / worth_about("cos", border), "root": worth(border) ** 2}
            for word, fraction in at.items():
                below = floor_number(fraction - Fraction(1, 2 ** 790), -788)
                above = plus(below, (1, -787))
                for number, way in product((below, above), WAYS):
                    self.check(form, word, number, way)
                self.assertEqual(told(form, word, below, way="down") == told(form, word, above, way="down"),
                                 not form.has(border))
                self.assertEqual(told(form, word, below) == told(form, word, above), form.has(border))

    def test_sines_hard_beside_nought(self):
        numbers = [x for x in CASES["sin"] if abs(true_worth("sin", x)) < Fraction(1, 2 ** 500)]
        self.assertGreater(len(numbers), 2)
        for number, form, way in product(numbers, FORMS, WAYS):
            self.check(form, "sin", number, way)
            self.check(form, "cos", number, way)

    def test_random_ones(self):
        chance = random.Random(20)
        for _ in range(250):
            bits, least = chance.choice((1, 2, 5, 24, 53, 113, 200)), chance.randrange(-400, 20)
            form = Form(bits, least=least, most=chance.randrange(least + 1, 401))
            word, way = chance.choice(FUNCTIONS), chance.choice(WAYS)
            length = chance.choice((1, 4, 30, 200, 800))
            number = number_of(chance.getrandbits(length) * 2 + 1, chance.randrange(-length - 9, 9 - length))
            if word not in ("root", "log") and chance.random() < 0.5:
                number = negated(number)
            self.check(form, word, number, way)

    def test_told_numbers_soon(self):
        # What was told and reckoned further may have exponents down to -4000.
        below, above = (2 ** 200 - 1, -200), (2 ** 199 + 1, -199)
        for by, way in product(METHODS, WAYS):
            for word, number, other, ways in (("cos", (1, -3999), below, ("down", "in")),
                                              ("exp", (1, -3999), above, ("up", "out")),
                                              ("root", (2 ** 3999 + 1, -3999), above, ("up", "out"))):
                answer = told_soon(self, lambda: told(GREAT, word, number, way=way, by=by), 2)
                self.assertEqual(answer, other if way in ways else (1, 0))
            for word, number in (("sin", (1, -3999)), ("arc", (1, -3999)), ("log", (2 ** 3999 + 1, -3999))):
                answer = told_soon(self, lambda: told(GREAT, word, number, way=way, by=by), 2)
                self.assertEqual(answer, (1, -400) if way in ("up", "out") else (0, 0))


class TooGreatWorths(unittest.TestCase):
    def test_powers(self):
        for form, way, by in product((FORM, GREAT, Form(1, least=-400, most=400)), WAYS, METHODS):
            with self.assertRaises(TooGreat) as caught:
                told(form, "exp", (125, 3), way=way, by=by)
            self.assertEqual(caught.exception.number, free(form, worth_about("exp", (125, 3)), way))
            self.assertTrue(shown(form, "exp", (125, 3), way=way, by=by).low[0] > 0)

    def test_just_too_great(self):
        # The root of 63.9 is below 8, but not below 7.75; the greatest number of the form is 7.5.
        number = (1023, -4)
        self.assertEqual(told(FORM, "root", number, way="down"), (15, -1))
        for way in ("near", "up", "out"):
            with self.assertRaises(TooGreat) as caught:
                told(FORM, "root", number, way=way)
            self.assertEqual(caught.exception.number, (1, 3))
        self.assertEqual(told(FORM, "root", number, way="in"), (15, -1))

    def test_exact_ones(self):
        form = Form(4, least=-6, most=0)
        for word in ("exp", "cos"):
            with self.assertRaises(TooGreat) as caught:
                told(form, word, (0, 0))
            self.assertEqual(caught.exception.number, (1, 0))
            self.assertEqual(shown(form, word, (0, 0)), Stretch((1, 0), (1, 0)))


class Judged(unittest.TestCase):
    def candidates(self, form, word, number):
        """Numbers about a worth: its neighbours in the form, their middles, and cuts of the worth itself."""
        true = true_worth(word, number)
        around = {free(form, true, "down"), free(form, true, "up")}
        for end in list(around):
            around |= {x for x in (form.above(end), form.below(end)) if x is not None}
        ends = sorted(around, key=worth)
        ends += [times(plus(one, other), (1, -1)) for one, other in zip(ends, ends[1:])]
        cuts = [floor_number(true, power) for power in (-20, -60, -700)]
        cuts += [plus(cut, (1, power)) for cut, power in zip(list(cuts), (-20, -60, -700))]
        return ends + cuts + [(1, 300), (-1, 300)]

    def test_by_its_own_words(self):
        places = [("root", (3, 0)), ("root", (9, 0)), ("root", (2 ** 400 + 1, -400)), ("exp", (0, 0)), ("exp", (1, -9)),
                  ("exp", (5, 0)), ("log", (1, 0)), ("log", (3, -1)), ("sin", (0, 0)), ("sin", (-3, 0)),
                  ("sin", (1, -30)), ("cos", (0, 0)), ("cos", (1, -5)), ("arc", (7, 0)), ("arc", (0, 0))]
        forms = [FORM, Form(1, least=-3, most=3), Form(24, least=-60, most=9)]
        for (word, number), form, way in product(places, forms, WAYS):
            true = true_worth(word, number)
            candidates = self.candidates(form, word, number)
            for low, high in product(candidates, repeat=2):
                if worth(low) <= worth(high):
                    right = (worth(low) <= true <= worth(high)
                             and free(form, worth(low), way) == free(form, worth(high), way))
                    with self.subTest(form=form, word=word, number=number, way=way, low=low, high=high):
                        self.assertIs(judge_shown(form, word, number, Stretch(low, high), way=way), right)

    def test_borders_as_ends(self):
        # Of two as near the even one is told, so 14 by 8 has its borders, and 13 by 8 has not.
        self.assertIs(judge_shown(FORM, "root", (3, 0), Stretch((27, -4), (29, -4))), True)
        self.assertIs(judge_shown(FORM, "root", (21, -3), Stretch((25, -4), (27, -4))), False)
        self.assertIs(judge_shown(FORM, "root", (21, -3), Stretch((51, -5), (53, -5))), True)
        self.assertIs(judge_shown(FORM, "root", (9, 0), Stretch((47, -4), (49, -4))), True)
        self.assertIs(judge_shown(FORM, "root", (9, 0), Stretch((3, 0), (13, -2)), way="down"), False)
        self.assertIs(judge_shown(FORM, "root", (9, 0), Stretch((3, 0), (25, -3)), way="down"), True)

    def test_things_that_are_no_stretches(self):
        for thing in NO_STRETCHES + [FORM, told, Stretch, [STRETCH], (STRETCH, STRETCH)]:
            for word, number in (("root", (3, 0)), ("exp", (0, 0))):
                self.assertIs(judge_shown(FORM, word, number, thing), False)

    def test_one_number_alone(self):
        self.assertIs(judge_shown(FORM, "exp", (0, 0), Stretch((1, 0), (1, 0))), True)
        self.assertIs(judge_shown(FORM, "exp", (0, 0), Stretch((9, -3), (9, -3))), False)
        cut = floor_number(worth_about("exp", (1, 0)), -790)
        self.assertIs(judge_shown(FORM, "exp", (1, 0), Stretch(cut, cut)), False)
        self.assertIs(judge_shown(FORM, "exp", (1, 0), Stretch(cut, plus(cut, (1, -790)))), True)
        self.assertIs(judge_shown(FORM, "exp", (1, 0), Stretch(plus(cut, (1, -790)), plus(cut, (1, -789)))), False)
        self.assertIs(judge_shown(FORM, "exp", (1, 0), Stretch(less(cut, (1, -790)), cut)), False)

    def test_nothing_is_changed(self):
        stretch = Stretch((27, -4), (55, -5))
        judge_shown(FORM, "root", (3, 0), stretch)
        self.assertEqual(stretch, Stretch((27, -4), (55, -5)))
        self.assertEqual(FORM, Form(4, least=-6, most=3))


class Tables(unittest.TestCase):
    SMALL = [FORM, Form(1, least=-4, most=4), Form(3, least=-2, most=11), Form(2, least=0, most=3),
             Form(5, least=-9, most=-2)]

    def test_by_its_own_words(self):
        for form, word, way in product(self.SMALL, FUNCTIONS, WAYS):
            rows = []
            for number in form.numbers():
                x = worth(number)
                if x >= 0 if word == "root" else x > 0 if word == "log" else word != "exp" or abs(x) <= 1000:
                    answer = free(form, true_worth(word, number), way)
                    if form.has(answer):
                        rows.append((number, answer))
            with self.subTest(form=form, word=word, way=way):
                self.assertEqual(table(form, word, way=way), rows)

    def test_against_the_forms_own_numbers(self):
        worths = worths_of_form(FORM, FORM.most + 9)
        for word, way in product(FUNCTIONS, WAYS):
            for number, answer in table(FORM, word, way=way):
                self.assertEqual(answer, number_from(rounded_among(worths, FORM, true_worth(word, number), way)))
                self.assertEqual(answer, told(FORM, word, number, way=way, by="halves"))

    def test_told_numbers_never_fall(self):
        forms = [Form(6, least=-9, most=6), Form(1, least=-400, most=99), Form(8, least=-3, most=6)]
        for form, word, way in product(forms, ("root", "exp", "log", "arc"), WAYS):
            rows = table(form, word, way=way)
            self.assertGreater(len(rows), 9)
            for (one, lower), (other, higher) in zip(rows, rows[1:]):
                self.assertTrue(order_of(one, other) < 0 and order_of(lower, higher) <= 0)

    def test_the_greatest_ones_soon(self):
        forms = [Form(1, least=-400, most=99), Form(1, least=-99, most=400), Form(200, least=-9, most=-1),
                 Form(6, least=-14, most=1)]
        for form, word, way in product(forms, FUNCTIONS, WAYS):
            rows = told_soon(self, lambda: table(form, word, way=way), 2)
            for number, answer in rows[::97]:
                self.assertEqual(answer, told(form, word, number, way=way, by="steps"))

    def test_refusals(self):
        great = Form(1, least=-400, most=100)
        for word, way in product(FUNCTIONS, WAYS):
            with self.assertRaises(TooMany) as caught:
                table(great, word, way=way)
            self.assertEqual(vars(caught.exception), {"many": 1001})
        for thing in NO_FORMS:
            self.assertRaises(NoForm, table, thing, "root")
            self.assertRaises(NoForm, table, thing, "none", way="none")
        for thing, form in product(NO_WORDS, (FORM, great)):
            for way in ("near", "none"):
                with self.assertRaises(NoWord) as caught:
                    table(form, thing, way=way)
                self.assertIs(caught.exception.word, thing)
        for thing, form in product(NO_WAYS, (FORM, great)):
            with self.assertRaises(NoWord) as caught:
                table(form, "root", way=thing)
            self.assertIs(caught.exception.word, thing)

    def test_names_and_default(self):
        self.assertEqual(table(way="near", word="exp", form=FORM), table(FORM, "exp"))
        self.assertNotEqual(table(FORM, "exp", way="down"), table(FORM, "exp"))
        self.assertRaises(TypeError, table, FORM, "exp", "near")

    def test_lists_are_the_askers_own(self):
        first = table(FORM, "log")
        kept = list(first)
        first.reverse()
        first.append(None)
        self.assertEqual(table(FORM, "log"), kept)
        self.assertTrue(all(isinstance(row, tuple) for row in kept))


class Handing(unittest.TestCase):
    ASKS = [told, shown]

    def test_defaults_and_names(self):
        self.assertEqual(told(FORM, "exp", (1, 0)), (11, -2))
        self.assertEqual(told(FORM, "exp", (1, 0), way="down"), (5, -1))
        self.assertEqual(told(by="steps", way="down", number=(1, 0), word="exp", form=FORM), (5, -1))
        stretch = shown(FORM, "exp", (1, 0))
        self.assertEqual(shown(by="series", way="near", number=(1, 0), word="exp", form=FORM), stretch)
        self.assertIs(judge_shown(FORM, "exp", (1, 0), stretch), True)
        self.assertIs(judge_shown(way="near", stretch=stretch, number=(1, 0), word="exp", form=FORM), True)
        for ask in self.ASKS:
            self.assertRaises(TypeError, ask, FORM, "exp", (1, 0), "near")
            self.assertRaises(TypeError, ask, FORM, "exp")
        self.assertRaises(TypeError, judge_shown, FORM, "exp", (1, 0), stretch, "near")
        self.assertRaises(TypeError, judge_shown, FORM, "exp", (1, 0))

    def refused(self, refusal, form, word, number, way="near", by="series"):
        """That all three refuse so, whatever the stretch is; the refusals."""
        found = []
        for ask in self.ASKS:
            with self.assertRaises(refusal) as caught:
                ask(form, word, number, way=way, by=by)
            found.append(caught.exception)
        if by == "series":
            for stretch in (STRETCH, None, 7):
                with self.assertRaises(refusal) as caught:
                    judge_shown(form, word, number, stretch, way=way)
                found.append(caught.exception)
        return found

    def test_no_form(self):
        for thing in NO_FORMS:
            self.refused(NoForm, thing, "root", (3, 0))
            self.refused(NoForm, thing, "none", (2, 0), "none")

    def test_no_word(self):
        for thing in NO_WORDS:
            for way, number in (("near", (3, 0)), ("none", (3, 0)), ("near", None)):
                for refusal in self.refused(NoWord, FORM, thing, number, way):
                    self.assertIs(refusal.word, thing)

    def test_no_way(self):
        for thing in NO_WAYS:
            for number, by in (((3, 0), "series"), ((3, 0), "none"), (None, "series"), ((-1, 0), "series")):
                for refusal in self.refused(NoWord, FORM, "root", number, thing, by):
                    self.assertIs(refusal.word, thing)

    def test_no_method(self):
        for thing in NO_METHODS:
            if thing != "series":
                for number in ((3, 0), None, (-1, 0)):
                    for refusal in self.refused(NoWord, FORM, "root", number, "up", thing):
                        self.assertIs(refusal.word, thing)

    def test_no_number(self):
        for thing, word in product(NO_NUMBERS, FUNCTIONS):
            self.refused(NoNumber, FORM, word, thing)

    def test_no_place(self):
        for word in FUNCTIONS:
            for number in NO_PLACES[word]:
                for refusal in self.refused(NoPlace, FORM, word, number):
                    self.assertEqual(vars(refusal), {"word": word, "number": number})

    def test_the_same_again(self):
        for word, way, by in product(FUNCTIONS, WAYS, METHODS):
            answer, stretch = [ask(FORM, word, (3, -2), way=way, by=by) for ask in self.ASKS]
            told(GREAT, word, (5, -2), way=way, by=by)
            self.assertEqual(told(FORM, word, (3, -2), way=way, by=by), answer)
            self.assertEqual(shown(FORM, word, (3, -2), way=way, by=by), stretch)

    def test_soon(self):
        numbers = {"root": [(3, 0), (2 ** 800 - 1, 800)], "exp": [(125, 3), (-125, 3), TINY],
                   "log": [(2 ** 800 - 1, 800), TINY]}
        for word, way, by in product(FUNCTIONS, WAYS, METHODS):
            for number in numbers.get(word, [(2 ** 800 - 1, 0), TINY]):
                told_soon(self, lambda: [told_or_too_great(GREAT, word, number, way=way, by=by) for _ in range(5)], 2)
