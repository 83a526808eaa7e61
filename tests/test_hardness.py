"""Points 14 and 15: how hard it is, and papers for that."""

import unittest
from bisect import bisect_left
from fractions import Fraction
from functools import lru_cache
from itertools import product

from oncenear.dots import less, number_of, plus
from oncenear.errors import NoForm, NoNumber, NoPlace, NoWord, TooMany
from oncenear.hardness import hard_paper, hardest, hardness, judge_paper
from oncenear.rounding import Form
from oncenear.stretches import Stretch
from oncenear.telling import shown, table, told
from oncenear.worths import exact_worth, is_exact
from tests.helpers import FORM, NO_FORMS, NO_NUMBERS, NO_WAYS, STRETCH
from tests.helpers import number_from, step_at, told_soon, worth, worths_of_form
from tests.oracle import floor_number, worth_about
from tests.test_telling import FORMS, GREAT, TINY, WAYS, free, true_worth
from tests.test_worths import BY_PI, CASES, EXACT, FUNCTIONS, NO_PLACES, NO_WORDS

SMALL = [FORM, Form(1, least=-4, most=4), Form(3, least=-2, most=9), Form(2, least=0, most=3),
         Form(5, least=-9, most=-2), Form(1, least=0, most=1), Form(4, least=-4, most=0)]
GREATEST = [Form(1, least=-400, most=99), Form(1, least=-99, most=400), Form(200, least=-9, most=-1),
            Form(6, least=-14, most=1), Form(3, least=-62, most=61), Form(8, least=-3, most=5),
            Form(4, least=-400, most=-340), Form(2, least=-120, most=128)]
TOO_MANY = Form(1, least=-400, most=100)


def borders_of(form, true, way):
    """The borders around a worth, some to each side, each found by rounding from the one ahead."""
    far = Fraction(2) ** (form.least - 3)
    numbers = [worth(free(form, true, "down")), worth(free(form, true, "up"))]
    for _ in range(3):
        numbers.insert(0, worth(free(form, numbers[0] - far, "down")))
        numbers.append(worth(free(form, numbers[-1] + far, "up")))
    return midways(numbers) if way == "near" else numbers


def midways(numbers):
    """The numbers midway between neighbours."""
    return [(one + other) / 2 for one, other in zip(numbers, numbers[1:])]


def greatest_h(distance, step):
    """The greatest whole number h for which a distance is less than the step divided by 2 ** h."""
    h = 0
    while distance < step / Fraction(2) ** (h + 1):
        h += 1
    while not distance < step / Fraction(2) ** h:
        h -= 1
    return h


def to_nearest(borders, fraction):
    """How far the nearest border is."""
    return min(abs(border - fraction) for border in borders)


@lru_cache(maxsize=None)
def own_case(form_values, word, number, way):
    """The borders, the step and the hardness of a place whose worth isn't exact."""
    bits, least, most = form_values
    form = Form(bits, least=least, most=most)
    # The cosine of 2 ** -800 is off by 2 ** -3205 from 1 less 2 ** -1601, which is a power of two beside a border.
    true = worth_about(word, number, 1100) if number == TINY else true_worth(word, number)
    borders = borders_of(form, true, way)
    step = step_at(form, worth(free(form, true, "in")))
    return borders, step, greatest_h(to_nearest(borders, true), step)


def values(form):
    """What a form is made of."""
    return (form.bits, form.least, form.most)


def is_own_place(word, number):
    """Whether a number of a small form is a place, by point 10's own words."""
    x = worth(number)
    return x >= 0 if word == "root" else x > 0 if word == "log" else word != "exp" or abs(x) <= 1000


def own_places(form, word, way):
    """The places that hardest looks at and whose worths aren't exact."""
    return [number for number in form.numbers() if is_own_place(word, number) and not is_exact(word, number)
            and form.has(free(form, true_worth(word, number), way))]


def own_judgement(form, word, paper, way):
    """Whether a list of numbers and stretches is a paper, by point 15's own words."""
    numbers = own_places(form, word, way)
    if [number for number, _ in paper] != numbers:
        return False
    cases = [own_case(values(form), word, number, way) for number in numbers]
    h = max((case[2] for case in cases), default=None)
    return all(shows(stretch, true_worth(word, number), case, h)
               for (number, stretch), case in zip(paper, cases))


def shows(stretch, true, case, h):
    """Whether a stretch holds the worth and is as near to borders as it should be."""
    borders, step, level = case
    low, high = worth(stretch.low), worth(stretch.high)
    if not low <= true <= high:
        return False
    if low < borders[0] or borders[-1] < high:
        return False
    inside = [low, high] + [x for x in borders + midways(borders) if low <= x <= high]
    distances = [to_nearest(borders, x) for x in inside]
    if level < h:
        return not any(distance < step / 2 ** h for distance in distances)
    return (all(distance < step / 2 ** h for distance in distances)
            and not any(distance < step / 2 ** (h + 1) for distance in distances))


class Hardness(unittest.TestCase):
    def check(self, form, word, number, way):
        """That the hardness is what the words of point 14 say."""
        with self.subTest(form=form, word=word, number=number, way=way):
            if exact_worth(word, number) is not None:
                self.assertIsNone(hardness(form, word, number, way=way))
            else:
                answer = hardness(form, word, number, way=way)
                self.assertEqual(answer, own_case(values(form), word, number, way)[2])
                self.assertIs(type(answer), int)
                self.assertGreaterEqual(answer, 1)

    def test_each_function_and_way(self):
        for word in FUNCTIONS:
            for number, form, way in product(CASES[word][::2] + CASES[word][-2:], FORMS, WAYS):
                self.check(form, word, number, way)

    def test_exact_worths(self):
        for word in FUNCTIONS:
            for (number, exact), form, way in product(EXACT[word], FORMS, WAYS):
                self.assertIsNone(hardness(form, word, number, way=way))

    def test_against_all_numbers_of_small_forms(self):
        for form, word in product(SMALL, FUNCTIONS):
            numbers = worths_of_form(form, form.most + 14)
            borders = {"near": midways(numbers), "up": numbers, "in": numbers}
            for number in own_places(form, word, "in"):
                true = true_worth(word, number)
                for way, found in borders.items():
                    at = bisect_left(found, true)
                    nearest = to_nearest(found[at - 1:at + 1], true)
                    self.assertEqual(hardness(form, word, number, way=way), greatest_h(nearest, step_at(form, true)))

    def test_known_ones(self):
        # e is 2.71828, 0.03172 from 2.75 and 0.09328 from the border 2.625, steps being 0.25.
        self.assertEqual(hardness(FORM, "exp", (1, 0)), 1)
        self.assertEqual(hardness(FORM, "exp", (1, 0), way="up"), 2)
        # The root of 3 is 1.73205, 0.01795 from 1.75 and 0.04455 from 1.6875, steps being 0.125.
        self.assertEqual(hardness(FORM, "root", (3, 0)), 1)
        self.assertEqual(hardness(FORM, "root", (3, 0), way="out"), 2)
        # The sine of 7 is 0.656987, 0.000737 from the border 0.65625, steps being 0.0625.
        self.assertEqual(hardness(FORM, "sin", (7, 0)), 6)
        self.assertEqual(hardness(FORM, "sin", (-7, 0)), 6)
        self.assertEqual(hardness(FORM, "sin", (-7, 0), way="down"), 1)

    def test_beside_easy_numbers(self):
        for way in WAYS:
            self.check(FORM, "cos", TINY, way)
            self.check(GREAT, "exp", TINY, way)
            self.check(FORM, "root", plus((9, 0), TINY), way)
            self.check(FORM, "sin", (-1, -400), way)
        self.assertEqual(hardness(FORM, "cos", TINY), 1)
        self.assertEqual(hardness(FORM, "cos", TINY, way="down"), 1597)
        self.assertEqual(hardness(FORM, "sin", (1, -400)), 1)
        self.assertEqual(hardness(FORM, "sin", (1, -400), way="in"), 394)

    def test_hard_beside_borders(self):
        form = Form(9, least=-40, most=40)
        for border in ((257, -8), (259, -9), (513, -9), (515, -10), (1, -1), (1023, -10)):
            at = {"exp": worth_about("log", border), "log": worth_about("exp", border),
                  "arc": worth_about("sin", border) / worth_about("cos", border), "root": worth(border) ** 2}
            for word, fraction in at.items():
                below = floor_number(fraction - Fraction(1, 2 ** 790), -788)
                for number, way in product((below, plus(below, (1, -787))), WAYS):
                    self.check(form, word, number, way)
                self.assertGreater(hardness(form, word, below, way="down" if form.has(border) else "near"), 760)

    def test_sines_hard_beside_nought(self):
        for number, form, way in product(BY_PI, FORMS, WAYS):
            self.check(form, "sin", number, way)
            self.check(form, "cos", number, way)

    def test_worths_that_are_too_great(self):
        for form, way in product((FORM, Form(1, least=-400, most=400), GREAT), WAYS):
            self.check(form, "exp", (125, 3), way)
            self.check(form, "root", (2 ** 800 - 1, 799), way)

    def test_told_numbers_soon(self):
        places = [("cos", (1, -3999)), ("exp", (1, -3999)), ("root", (2 ** 3999 + 1, -3999)), ("sin", (-1, -3999)),
                  ("arc", (1, -3999)), ("log", (2 ** 3999 + 1, -3999))]
        for (word, number), way in product(places, WAYS):
            answer = told_soon(self, lambda: hardness(GREAT, word, number, way=way), 2)
            self.assertEqual(answer == 1, way == "near")


class Hardest(unittest.TestCase):
    def test_by_its_own_words(self):
        for form, word, way in product(SMALL, FUNCTIONS, WAYS):
            found = {number: own_case(values(form), word, number, way)[2] for number in own_places(form, word, way)}
            greatest = max(found.values(), default=None)
            with self.subTest(form=form, word=word, way=way):
                self.assertEqual(hardest(form, word, way=way),
                                 (greatest, [number for number in found if found[number] == greatest]))

    def test_none(self):
        self.assertEqual(hardest(Form(1, least=0, most=1), "root"), (None, []))
        self.assertEqual(hardest(Form(1, least=0, most=1), "log"), (None, []))
        # All powers of e are 1 by 2 or more here, so none is told.
        for way in WAYS:
            self.assertEqual(hardest(Form(200, least=-9, most=-1), "exp", way=way), (None, []))

    def test_those_whose_told_is_refused_do_not_count(self):
        # The cosines of 1 by 4, 1 by 2 and 3 by 4 are 0.96891, 0.87758 and 0.73169: up, the first two are told as 1,
        # which is too great, and near they are so, too.
        form = Form(2, least=-2, most=0)
        self.assertEqual(hardest(form, "cos", way="down"), (3, [(-3, -2), (-1, -2), (1, -2), (3, -2)]))
        self.assertEqual(hardest(form, "cos", way="up"), (3, [(-3, -2), (3, -2)]))
        self.assertEqual(hardest(form, "cos"), (1, [(-3, -2), (3, -2)]))
        self.assertEqual([number for number, _ in hard_paper(form, "cos")], [(-3, -2), (3, -2)])

    def test_against_hardness(self):
        for form, word, way in product(GREATEST, FUNCTIONS, ("near", "down", "out")):
            found = {number: hardness(form, word, number, way=way) for number, _ in table(form, word, way=way)}
            level = max([h for h in found.values() if h is not None], default=None)
            numbers = [number for number in found if found[number] == level and level is not None]
            self.assertEqual(hardest(form, word, way=way), (level, numbers))

    def test_the_askers_own(self):
        answer = hardest(FORM, "sin")
        self.assertEqual(answer, (6, [(-7, 0), (7, 0)]))
        self.assertIs(type(answer), tuple)
        answer[1].append(None)
        self.assertEqual(hardest(FORM, "sin"), (6, [(-7, 0), (7, 0)]))


class Papers(unittest.TestCase):
    def test_each_is_one(self):
        for form, word, way in product(SMALL, FUNCTIONS, WAYS):
            paper = hard_paper(form, word, way=way)
            with self.subTest(form=form, word=word, way=way):
                self.assertIs(type(paper), list)
                self.assertTrue(all(type(entry) is tuple and type(entry[1]) is Stretch for entry in paper))
                self.assertTrue(own_judgement(form, word, paper, way))
                self.assertIs(judge_paper(form, word, paper, way=way), True)

    def test_other_stretches(self):
        found = {True: 0, False: 0}
        for form, word, way in product((FORM, Form(1, least=-4, most=4), Form(2, least=0, most=3)), FUNCTIONS, WAYS):
            paper = hard_paper(form, word, way=way)
            h, numbers = hardest(form, word, way=way)
            hard = [at for at, entry in enumerate(paper) if entry[0] in numbers]
            for at in list(range(len(paper)))[::29] + hard[:2]:
                number = paper[at][0]
                case = own_case(values(form), word, number, way)
                for stretch in self.stretches_about(form, word, paper[at], way, h):
                    # All others are right.
                    right = shows(stretch, true_worth(word, number), case, h)
                    changed = paper[:at] + [(number, stretch)] + paper[at + 1:]
                    self.assertIs(judge_paper(form, word, changed, way=way), right, (form, word, way, number, stretch))
                    found[right] += 1
        self.assertGreater(min(found.values()), 500)

    def stretches_about(self, form, word, entry, way, h):
        """Stretches with ends at just the step divided by 2 ** h from a border, and by 2 ** (h + 1), and beside."""
        number, stretch = entry
        borders, step, _ = own_case(values(form), word, number, way)
        true = true_worth(word, number)
        below = max(border for border in borders if border < true)
        above = min(border for border in borders if border > true)
        far = step / 2 ** (h + 20)
        ends = [below, above, (below + above) / 2]
        for far_off in (step / 2 ** h, step / 2 ** (h + 1)):
            ends += [border + side * far_off for border in (below, above) for side in (1, -1)]
        ends += [end + side * far for end in list(ends) for side in (1, -1)]
        ends = [number_from(end) for end in ends]
        lows = [end for end in ends if worth(end) <= true] + [stretch.low]
        highs = [end for end in ends if worth(end) >= true] + [stretch.high]
        for low in lows:
            yield Stretch(low, stretch.high)
        for high in highs:
            yield Stretch(stretch.low, high)
        # Beside the worth, and of one number alone.
        yield Stretch(stretch.high, plus(stretch.high, number_from(far)))
        yield Stretch(less(stretch.low, number_from(far)), stretch.low)
        yield Stretch(stretch.low, stretch.low)
        yield Stretch((-1, 300), (1, 300))

    def test_at_just_the_step_divided(self):
        # The sine of 7 lies 0.000737 above the border 0.65625; the step is 2 ** -4, its hardness 6.
        paper = hard_paper(FORM, "sin")
        at = [number for number, _ in paper].index((7, 0))
        border = (21, -5)
        inner, outer = plus(border, (1, -11)), plus(border, (1, -10))
        near, far = paper[at][1].low, paper[at][1].high
        tiny = (1, -700)
        for low, high, right in ((inner, far, True), (less(inner, tiny), far, False), (near, outer, False),
                                 (near, less(outer, tiny), True), (inner, less(outer, tiny), True)):
            changed = paper[:at] + [((7, 0), Stretch(low, high))] + paper[at + 1:]
            self.assertIs(judge_paper(FORM, "sin", changed), right)
        # The sine of 1, which isn't as hard, is 0.84147: the borders are 0.78125 and 0.84375 - 0.03125 + 0.03125.
        at = [number for number, _ in paper].index((1, 0))
        below, above = (25, -5), (27, -5)
        inner, outer = plus(below, (1, -10)), less(above, (1, -10))
        for low, high, right in ((inner, outer, True), (less(inner, tiny), outer, False),
                                 (inner, plus(outer, tiny), False)):
            changed = paper[:at] + [((1, 0), Stretch(low, high))] + paper[at + 1:]
            self.assertIs(judge_paper(FORM, "sin", changed), right)

    def test_other_lists(self):
        for form, word, way in product((FORM, Form(2, least=0, most=3)), FUNCTIONS, WAYS):
            paper = hard_paper(form, word, way=way)
            ends = [paper[:-1], paper[1:], paper[:1] + paper, paper + paper[-1:], paper[::-1], paper + paper,
                    paper[:2][::-1] + paper[2:], paper + [((1, 300), STRETCH)], [((0, 0), STRETCH)] + paper, []]
            for other in ends:
                self.assertIs(judge_paper(form, word, other, way=way), other == paper)
            self.assertGreater(len(paper), 1)

    def test_the_empty_paper(self):
        none = [(Form(1, least=0, most=1), "root"), (Form(1, least=0, most=1), "log"),
                (Form(200, least=-9, most=-1), "exp"), (Form(200, least=-9, most=-1), "cos")]
        for (form, word), way in product(none, WAYS):
            self.assertEqual(hard_paper(form, word, way=way), [])
            self.assertIs(judge_paper(form, word, [], way=way), True)
            for thing in ((), None, [()], [((1, 0), STRETCH)], [[]], "", 0):
                self.assertIs(judge_paper(form, word, thing, way=way), False)

    def test_anything(self):
        paper = hard_paper(FORM, "exp")
        number, stretch = paper[0]
        one = [number for number, _ in paper].index((1, 0))
        for thing in NO_NUMBERS + NO_FORMS + [tuple(paper), [paper], {}, iter(paper), judge_paper, Stretch]:
            self.assertIs(judge_paper(FORM, "exp", thing), False)
            self.assertIs(judge_paper(FORM, "exp", [thing] + paper[1:]), False)
            self.assertIs(judge_paper(FORM, "exp", [(thing, stretch)] + paper[1:]), False)
            self.assertIs(judge_paper(FORM, "exp", [(number, thing)] + paper[1:]), False)
        for entry in ([number, stretch], (number,), (number, stretch, None), (stretch, number), (list(number), stretch),
                      (number, (stretch.low, stretch.high)), (number[0], number[1], stretch)):
            self.assertIs(judge_paper(FORM, "exp", [entry] + paper[1:]), False)
        # What is equal to a number needs not be one.
        for thing in ((True, 0), (1, False), (True, False)):
            changed = paper[:one] + [(thing, paper[one][1])] + paper[one + 1:]
            self.assertIs(judge_paper(FORM, "exp", changed), False)

    def test_of_another_question(self):
        for word, way in product(FUNCTIONS, WAYS):
            paper = hard_paper(FORM, word, way=way)
            for other, other_way in product(FUNCTIONS, WAYS):
                if other == word or (way == "near") != (other_way == "near"):
                    self.assertIs(judge_paper(FORM, other, paper, way=other_way),
                                  own_judgement(FORM, other, paper, other_way))

    def test_nothing_is_changed(self):
        paper = hard_paper(FORM, "log")
        again = [(number, Stretch(stretch.low, stretch.high)) for number, stretch in paper]
        judge_paper(FORM, "log", paper)
        self.assertEqual(paper, again)
        self.assertEqual(hard_paper(FORM, "log"), again)
        paper.clear()
        self.assertEqual(hard_paper(FORM, "log"), again)

    def test_the_greatest_ones_soon(self):
        for form, word, way in product(GREATEST, FUNCTIONS, ("near", "up", "in")):
            level, numbers = told_soon(self, lambda: hardest(form, word, way=way), 2)
            paper = told_soon(self, lambda: hard_paper(form, word, way=way), 2)
            self.assertIs(told_soon(self, lambda: judge_paper(form, word, paper, way=way), 2), True)
            for number, stretch in paper[::211]:
                self.assertEqual(hardness(form, word, number, way=way), own_case(values(form), word, number, way)[2])
            if paper:
                self.assertIs(judge_paper(form, word, paper[1:], way=way), False)
                self.assertTrue(set(numbers) <= {number for number, _ in paper})


class Refusals(unittest.TestCase):
    WHOLE = [hardest, hard_paper, lambda form, word, way="near": judge_paper(form, word, None, way=way),
             lambda form, word, way="near": judge_paper(form, word, [], way=way)]

    def test_no_form(self):
        for thing in NO_FORMS:
            for word, way, number in (("root", "near", (3, 0)), ("none", "none", None)):
                self.assertRaises(NoForm, hardness, thing, word, number, way=way)
                for ask in self.WHOLE:
                    self.assertRaises(NoForm, ask, thing, word, way=way)

    def refused_word(self, thing, ask, *arguments, **more):
        """That a thing is refused with NoWord, which tells it."""
        with self.assertRaises(NoWord) as caught:
            ask(*arguments, **more)
        self.assertIs(caught.exception.word, thing)

    def test_no_word(self):
        for thing, way in product(NO_WORDS, ("near", "none")):
            for number in ((3, 0), None):
                self.refused_word(thing, hardness, FORM, thing, number, way=way)
            for ask, form in product(self.WHOLE, (FORM, TOO_MANY)):
                self.refused_word(thing, ask, form, thing, way=way)

    def test_no_way(self):
        for thing in NO_WAYS:
            for number in ((3, 0), (-1, 0), (2, 0), None):
                self.refused_word(thing, hardness, FORM, "root", number, way=thing)
            for ask, form in product(self.WHOLE, (FORM, TOO_MANY)):
                self.refused_word(thing, ask, form, "root", way=thing)

    def test_no_number_and_no_place(self):
        for word, thing in product(FUNCTIONS, NO_NUMBERS):
            self.assertRaises(NoNumber, hardness, FORM, word, thing)
        for word in FUNCTIONS:
            for number in NO_PLACES[word]:
                with self.assertRaises(NoPlace) as caught:
                    hardness(FORM, word, number)
                self.assertEqual(vars(caught.exception), {"word": word, "number": number})

    def test_too_many(self):
        for ask, word, way in product(self.WHOLE, FUNCTIONS, WAYS):
            for form, many in ((TOO_MANY, 1001), (Form(9, least=0, most=9), 1023)):
                with self.assertRaises(TooMany) as caught:
                    ask(form, word, way=way)
                self.assertEqual(vars(caught.exception), {"many": many})
        # One number alone is told of any form.
        self.assertIsInstance(hardness(TOO_MANY, "exp", (1, 0)), int)

    def test_names_and_defaults(self):
        self.assertEqual(hardness(way="up", number=(1, 0), word="exp", form=FORM), 2)
        self.assertEqual(hardness(FORM, "exp", (1, 0), way="near"), hardness(FORM, "exp", (1, 0)))
        self.assertEqual(hardest(way="near", word="sin", form=FORM), hardest(FORM, "sin"))
        self.assertNotEqual(hardest(FORM, "sin", way="up"), hardest(FORM, "sin"))
        paper = hard_paper(FORM, "sin")
        self.assertEqual(hard_paper(way="near", word="sin", form=FORM), paper)
        self.assertIs(judge_paper(way="near", thing=paper, word="sin", form=FORM), True)
        wide = [(number, Stretch(*ends)) for number, ends in [((3, 0), ((27, -4), (29, -4)))]]
        self.assertIs(judge_paper(Form(1, least=0, most=2), "root", wide), False)
        for ask, arguments in ((hardness, (FORM, "exp", (1, 0))), (hardest, (FORM, "exp")), (hard_paper, (FORM, "exp")),
                               (judge_paper, (FORM, "exp", []))):
            self.assertRaises(TypeError, ask, *arguments, "near")
            self.assertRaises(TypeError, ask, *arguments[:-1])

    def test_the_size_is_that_of_told_by_in(self):
        for word, number, way in product(("exp", "arc"), ((3, 0), (-5, -1), number_of(77, -9)), WAYS):
            inner = told(GREAT, word, number, way="in")
            step = worth(GREAT.step(inner))
            stretch = shown(GREAT, word, number, way=way)
            self.assertLess(worth(stretch.width()), step)
            self.assertEqual(own_case(values(GREAT), word, number, way)[1], step)
