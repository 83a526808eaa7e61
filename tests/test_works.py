"""Point 16: a works; and points 9 and 10 once more, of a works."""

import random
import unittest
from fractions import Fraction
from itertools import combinations, product

from oncenear.dots import plus
from oncenear.errors import NoForm, NoNumber, NoPlace, NoWord, TooGreat
from oncenear.hardness import hardness
from oncenear.rounding import Form
from oncenear.stretches import Stretch
from oncenear.telling import judge_shown
from oncenear.works import Works
from oncenear.worths import exact_worth, worth_bounds
from tests.helpers import FORM, NO_FORMS, NO_NUMBERS, NO_WAYS, told_soon, worth
from tests.oracle import holds_about, log_two_about, pi_about
from tests.test_bounds import BITS, NO_BITS
from tests.test_telling import FORMS, GREAT, TINY, WAYS, told_or_too_great, true_worth
from tests.test_worths import CASES, EXACT, FUNCTIONS, METHODS, NO_METHODS, NO_PLACES, NO_WORDS
from tests.test_worths import NO_BITS as NO_WORTH_BITS

PI, LOG_TWO = Fraction(pi_about(700)), Fraction(log_two_about(700))


def told_by(works, form, word, number, **more):
    """What a works tells, or the field of the refusal with TooGreat."""
    try:
        return works.told(form, word, number, **more)
    except TooGreat as refusal:
        return refusal.number


class Answers(unittest.TestCase):
    def check_told(self, works, form, word, number, way, by):
        """That a works tells and shows as the functions do."""
        with self.subTest(form=form, word=word, number=number, way=way, by=by):
            self.assertEqual(told_by(works, form, word, number, way=way, by=by),
                             told_or_too_great(form, word, number, way=way, by=by))
            stretch = works.shown(form, word, number, way=way, by=by)
            self.assertIs(judge_shown(form, word, number, stretch, way=way), True)
            exact = exact_worth(word, number)
            if exact is not None:
                self.assertEqual(stretch, Stretch(exact, exact))
            self.assertEqual(works.hardness(form, word, number, way=way), hardness(form, word, number, way=way))

    def check_bounds(self, works, word, number, bits, by):
        """That the bounds of a works are as point 10 promises."""
        stretch = works.worth_bounds(word, number, bits=bits, by=by)
        self.assertIsInstance(stretch, Stretch)
        self.assertTrue(holds_about(stretch, true_worth(word, number)))
        self.assertLessEqual(worth(stretch.width()), Fraction(1, 2 ** bits))
        for other in METHODS:
            self.assertIsNotNone(stretch.common(worth_bounds(word, number, bits=bits, by=other)))
            self.assertIsNotNone(stretch.common(works.worth_bounds(word, number, bits=bits, by=other)))

    def cases(self):
        """Places, forms, ways and methods, in a chance order."""
        chance = random.Random(16)
        places = [(word, number) for word in FUNCTIONS
                  for number in CASES[word][::3] + [number for number, _ in EXACT[word][:4]]]
        found = [(place, chance.choice(FORMS), chance.choice(WAYS), chance.choice(METHODS)) for place in places * 3]
        chance.shuffle(found)
        return found

    def test_whatever_was_asked_ahead(self):
        works = Works()
        known = works.known()
        for (word, number), form, way, by in self.cases():
            self.check_told(works, form, word, number, way, by)
            self.check_bounds(works, word, number, (form.bits * 7) % 601, by)
            before, known = known, works.known()
            self.assertTrue(before[0] <= known[0] and before[1] <= known[1])

    def test_after_much_was_asked(self):
        # What is known as deep as it goes is cut for all of these.
        works = Works()
        works.pi_bounds(1600)
        works.log_two_bounds(1600)
        for word, by in product(FUNCTIONS, METHODS):
            for number in (CASES[word][3], CASES[word][-1]):
                works.worth_bounds(word, number, bits=600, by=by)
        known = works.known()
        for (word, number), form, way, by in self.cases()[:150]:
            self.check_told(works, form, word, number, way, by)
            for bits in (0, 3, 40, 600):
                self.check_bounds(works, word, number, bits, by)
        self.assertGreaterEqual(works.known(), known)

    def test_stretches_of_a_works_have_common_parts(self):
        works = Works()
        for word in FUNCTIONS:
            stretches = []
            for bits, by in product((0, 5, 600, 60, 1), METHODS):
                stretches.append(works.worth_bounds(word, (77, -5), bits=bits, by=by))
                works.pi_bounds(bits)
                works.log_two_bounds(bits + 7)
            for one, other in combinations(stretches, 2):
                self.assertIsNotNone(one.common(other))

    def test_hard_ones_soon(self):
        works = Works()
        for word, way, by in product(FUNCTIONS, WAYS, METHODS):
            for number in (TINY, plus((1, 0), TINY), CASES[word][-1]):
                told_soon(self, lambda: told_by(works, GREAT, word, number, way=way, by=by), 2)
                told_soon(self, lambda: works.hardness(GREAT, word, number, way=way), 2)


class Bounds(unittest.TestCase):
    def check(self, works, bits):
        """That both bounds hold what they should, and are narrow enough."""
        for stretch, true in ((works.pi_bounds(bits), PI), (works.log_two_bounds(bits), LOG_TWO)):
            self.assertIsInstance(stretch, Stretch)
            self.assertTrue(worth(stretch.low) < true < worth(stretch.high))
            self.assertLessEqual(worth(stretch.width()), Fraction(1, 2 ** bits))

    def test_rising_falling_and_by_chance(self):
        shuffled = list(BITS)
        random.Random(9).shuffle(shuffled)
        for order in (BITS, BITS[::-1], shuffled):
            works = Works()
            for bits in order:
                self.check(works, bits)

    def test_after_deeper_ones_were_needed(self):
        works = Works()
        works.worth_bounds("sin", (2 ** 800 - 1, 0), bits=600)
        works.worth_bounds("exp", (125, 3), bits=600)
        self.assertGreater(works.known()[0], 1400)
        self.assertGreater(works.known()[1], 1600)
        for bits in BITS:
            self.check(works, bits)


class Known(unittest.TestCase):
    def test_at_first(self):
        works = Works()
        self.assertEqual(works.known(), (0, 0))
        self.assertIs(type(works.known()), tuple)
        works.pi_bounds(0)
        self.assertEqual(works.known(), (0, 0))
        works.log_two_bounds(0)
        self.assertEqual(works.known(), (0, 0))

    def test_no_less_than_was_asked_for(self):
        works = Works()
        for bits in (0, 1, 2, 50, 3, 600, 1600, 7):
            before = works.known()
            works.pi_bounds(bits)
            self.assertGreaterEqual(works.known()[0], max(bits, before[0]))
            self.assertEqual(works.known()[1], before[1])
        works = Works()
        for bits in (1, 0, 2, 50, 3, 600, 1600, 7):
            before = works.known()
            works.log_two_bounds(bits)
            self.assertGreaterEqual(works.known()[1], max(bits, before[1]))
            self.assertEqual(works.known()[0], before[0])

    def test_unchanged_where_no_more_is_asked(self):
        works = Works()
        works.pi_bounds(70)
        works.log_two_bounds(90)
        known = works.known()
        for bits in range(known[0] + 1):
            works.pi_bounds(bits)
        for bits in range(known[1] + 1):
            works.log_two_bounds(bits)
        self.assertEqual(works.known(), known)

    def test_the_same_again_asks_for_no_more(self):
        works = Works()
        for word, way, by in product(FUNCTIONS, WAYS, METHODS):
            for number in CASES[word][::5]:
                told_by(works, FORM, word, number, way=way, by=by)
                works.shown(GREAT, word, number, way=way, by=by)
                works.hardness(FORM, word, number, way=way)
        known = works.known()
        for word, way, by in product(FUNCTIONS, WAYS, METHODS):
            for number in CASES[word][::5]:
                told_by(works, FORM, word, number, way=way, by=by)
                works.shown(GREAT, word, number, way=way, by=by)
                works.hardness(FORM, word, number, way=way)
        self.assertEqual(works.known(), known)

    def test_what_worths_need_is_known(self):
        works = Works()
        works.told(GREAT, "sin", (1, 799))
        self.assertGreater(works.known()[0], 1000)
        self.assertEqual(works.known()[1], 0)
        works.told(GREAT, "log", (3, 7))
        self.assertGreater(works.known()[1], 200)

    def test_forget(self):
        works = Works()
        self.assertIsNone(works.forget())
        self.assertEqual(works.known(), (0, 0))
        for word, by in product(FUNCTIONS, METHODS):
            works.worth_bounds(word, (77, -3), bits=300, by=by)
        works.pi_bounds(900)
        works.log_two_bounds(500)
        answer = works.told(GREAT, "cos", (77, -3))
        self.assertIsNone(works.forget())
        self.assertEqual(works.known(), (0, 0))
        self.assertEqual(works.told(GREAT, "cos", (77, -3)), answer)
        self.assertLess(works.known()[0], 500)
        works.forget()
        works.pi_bounds(0)
        self.assertEqual(works.known(), (0, 0))

    def test_each_works_has_its_own(self):
        one, other = Works(), Works()
        one.pi_bounds(300)
        one.worth_bounds("exp", (77, -3), bits=300, by="steps")
        self.assertEqual(other.known(), (0, 0))
        self.assertEqual(Works().known(), (0, 0))
        other.forget()
        self.assertGreaterEqual(one.known()[0], 300)

    def test_told_stretches_are_no_part_of_it(self):
        works = Works()
        for ask in (lambda: works.pi_bounds(50), lambda: works.log_two_bounds(50),
                    lambda: works.worth_bounds("arc", (3, 0), bits=9), lambda: works.shown(FORM, "exp", (0, 0))):
            stretch = ask()
            low, high = stretch.low, stretch.high
            stretch.low, stretch.high = (-5, 0), (-3, 0)
            self.assertEqual(ask(), Stretch(low, high))


class Refused(unittest.TestCase):
    def setUp(self):
        self.works = Works()
        self.works.pi_bounds(20)
        self.works.log_two_bounds(30)

    def refused(self, refusal, method, *arguments, **more):
        """That a call is refused, and that no more is known behind it than ahead; the refusal."""
        for works in (Works(), self.works):
            known = works.known()
            with self.assertRaises(refusal) as caught:
                getattr(works, method)(*arguments, **more)
            self.assertEqual(works.known(), known)
        return caught.exception

    def test_bits(self):
        for method, bits in product(("pi_bounds", "log_two_bounds"), NO_BITS):
            self.refused(NoNumber, method, bits)
        # Whatever is known.
        self.works.worth_bounds("sin", (2 ** 800 - 1, 799 - 800), bits=600)
        self.works.worth_bounds("exp", (125, 3), bits=600)
        self.refused(NoNumber, "pi_bounds", 1601)
        self.refused(NoNumber, "log_two_bounds", 1601)
        for word, bits in product(FUNCTIONS, NO_WORTH_BITS):
            self.refused(NoNumber, "worth_bounds", word, (3, 0), bits=bits)

    def test_forms(self):
        for method, thing in product(("told", "shown", "hardness"), NO_FORMS):
            self.refused(NoForm, method, thing, "root", (3, 0))
            self.refused(NoForm, method, thing, "none", None, way="none")

    def test_words(self):
        for method, thing in product(("told", "shown", "hardness"), NO_WORDS):
            for number, way in product(((3, 0), None), ("near", "none")):
                self.assertIs(self.refused(NoWord, method, FORM, thing, number, way=way).word, thing)
        for method, thing in product(("told", "shown", "hardness"), NO_WAYS):
            for number in ((3, 0), (-1, 0), None):
                self.assertIs(self.refused(NoWord, method, FORM, "root", number, way=thing).word, thing)
        for thing, number in product(NO_METHODS, ((3, 0), (-1, 0), None)):
            for method in ("told", "shown"):
                self.assertIs(self.refused(NoWord, method, FORM, "root", number, by=thing).word, thing)
            self.assertIs(self.refused(NoWord, "worth_bounds", "root", number, bits=-1, by=thing).word, thing)
        for thing in NO_WORDS:
            self.assertIs(self.refused(NoWord, "worth_bounds", thing, None, bits=-1, by="none").word, thing)

    def test_numbers_and_places(self):
        for thing, word in product(NO_NUMBERS, FUNCTIONS):
            for method in ("told", "shown", "hardness"):
                self.refused(NoNumber, method, FORM, word, thing)
            for bits in (9, -1):
                self.refused(NoNumber, "worth_bounds", word, thing, bits=bits)
        for word in FUNCTIONS:
            for number in NO_PLACES[word]:
                wanted = {"word": word, "number": number}
                for method in ("told", "shown", "hardness"):
                    self.assertEqual(vars(self.refused(NoPlace, method, FORM, word, number)), wanted)
                self.assertEqual(vars(self.refused(NoPlace, "worth_bounds", word, number, bits=9)), wanted)
                self.refused(NoNumber, "worth_bounds", word, number, bits=601)

    def test_too_great(self):
        with self.assertRaises(TooGreat) as caught:
            self.works.told(FORM, "exp", (9, 0))
        self.assertEqual(caught.exception.number, (1, 13))
        self.assertTrue(self.works.known()[0] >= 20 and self.works.known()[1] >= 30)
        self.assertTrue(self.works.shown(FORM, "exp", (9, 0)).low[0] > 0)
        self.assertIsInstance(self.works.hardness(FORM, "exp", (9, 0)), int)

    def test_names_and_defaults(self):
        works = self.works
        self.assertEqual(works.told(FORM, "exp", (1, 0)), (11, -2))
        self.assertEqual(works.told(by="steps", way="down", number=(1, 0), word="exp", form=FORM), (5, -1))
        stretch = works.shown(by="steps", way="down", number=(1, 0), word="exp", form=FORM)
        self.assertIs(judge_shown(FORM, "exp", (1, 0), stretch, way="down"), True)
        self.assertEqual(works.hardness(way="up", number=(1, 0), word="exp", form=FORM), 2)
        self.assertEqual(works.hardness(FORM, "exp", (1, 0)), 1)
        self.assertLessEqual(worth(works.worth_bounds(by="halves", bits=9, number=(1, 0), word="exp").width()),
                             Fraction(1, 2 ** 9))
        self.assertEqual(works.pi_bounds(bits=10), works.pi_bounds(10))
        self.assertEqual(works.log_two_bounds(bits=10), works.log_two_bounds(10))
        for method, arguments in (("told", (FORM, "exp", (1, 0), "near")), ("shown", (FORM, "exp", (1, 0), "near")),
                                  ("hardness", (FORM, "exp", (1, 0), "near")), ("worth_bounds", ("exp", (1, 0), 9)),
                                  ("worth_bounds", ("exp", (1, 0))), ("pi_bounds", (9, "five")), ("pi_bounds", ()),
                                  ("log_two_bounds", (9, "three")), ("known", (1,)), ("forget", (1,))):
            self.assertRaises(TypeError, getattr(works, method), *arguments)
        self.assertRaises(TypeError, Works, 1)
        self.assertRaises(TypeError, works.pi_bounds, 9, by="five")

    def test_a_form_of_another_size(self):
        small, great = Form(1, least=0, most=9), Form(200, least=-400, most=9)
        for order in ((small, great), (great, small)):
            works = Works()
            for form in order:
                for word in FUNCTIONS:
                    self.assertEqual(works.told(form, word, (3, 0)), told_or_too_great(form, word, (3, 0)))
