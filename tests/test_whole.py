"""Points 1 to 4 over the whole program."""

import copy
import importlib
import inspect
import unittest
from itertools import product

from oncenear import errors
from oncenear.desk import Desk
from oncenear.errors import NoForm, NoLine, NoNumber, NoPlace, NoStretch, NoText, NoWord, TooGreat, TooMany
from oncenear.hardness import hard_paper, hardest
from oncenear.rounding import Form
from oncenear.stretches import Stretch
from oncenear.telling import shown, table
from oncenear.walks import steps_of
from oncenear.works import Works
from tests.helpers import FORM, STRETCH
from tests.test_interface import CLASSES, FUNCTIONS

TOO_MANY = Form(1, least=-400, most=100)
NO_NUMBERS = (True, False, 1, (True, 0), (2, 0), None)
BELOW = Stretch((-1, 0), (1, 0))
PAPER = hard_paper(FORM, "root")

# Of each function and method: what may be handed in, and what is refused, in the order in which it is told.
NUMBER = [("number", thing, NoNumber) for thing in NO_NUMBERS]
TOLD = [("form", None, NoForm), ("form", (4, -6, 3), NoForm), ("word", "sqrt", NoWord), ("word", True, NoWord),
        ("way", "sideways", NoWord), ("by", "hand", NoWord)] + NUMBER + [("number", (-1, 0), NoPlace)]
SHOWN = [wrong for wrong in TOLD if wrong[0] != "by"]
WHOLE = [("form", 4, NoForm), ("word", ["root"], NoWord), ("way", False, NoWord), ("form", TOO_MANY, TooMany)]
EXACT = [("word", None, NoWord)] + NUMBER + [("number", (-3, 0), NoPlace)]
WALK = [("word", "root", NoWord), ("number", (2, 0), NoNumber), ("many", 0, NoNumber), ("many", True, NoNumber),
        ("number", (-3, 0), NoPlace)]
BOUNDS = [("word", "Root", NoWord), ("by", "five", NoWord)] + NUMBER
BOUNDS += [("bits", thing, NoNumber) for thing in (True, False, -1, 601, None)] + [("number", (-1, -9), NoPlace)]
BITS = [("bits", thing, NoNumber) for thing in (True, False, -1, 1601, None, "9", (9,))]
TWO = [(name, thing, NoNumber) for name in ("one", "other") for thing in NO_NUMBERS]
TWO_STRETCHES = [(name, thing, NoStretch) for name in ("one", "other") for thing in (None, True, (1, 0), FORM)]
FORMS = [("bits", thing, NoForm) for thing in (True, 0, 201, None)]
FORMS += [("least", thing, NoForm) for thing in (True, -401, 301)] + [("most", thing, NoForm) for thing in (True, -7)]
TEXT = [("text", thing, NoText) for thing in (None, True, 1, "", "x", ["1p0"])]

ASKED = {
    "is_number": ({"thing": (1, 0)}, []),
    "number_of": ({"m": 12, "e": 0}, [(name, thing, NoNumber) for name in "me" for thing in (True, False, None, "1")]),
    "plus": ({"one": (1, 0), "other": (3, 0)}, TWO),
    "less": ({"one": (1, 0), "other": (3, 0)}, TWO),
    "times": ({"one": (1, 0), "other": (3, 0)}, TWO),
    "order_of": ({"one": (1, 0), "other": (3, 0)}, TWO),
    "rounded": ({"form": FORM, "top": 1, "bottom": 1, "way": "near"},
                [("form", True, NoForm), ("way", "Near", NoWord), ("top", True, NoNumber), ("bottom", True, NoNumber),
                 ("bottom", 0, NoNumber), ("top", None, NoNumber), ("top", 999, TooGreat)]),
    "sum_of": ({"one": STRETCH, "other": STRETCH}, TWO_STRETCHES),
    "product_of": ({"one": STRETCH, "other": STRETCH}, TWO_STRETCHES),
    "quotient_of": ({"one": STRETCH, "other": STRETCH, "bits": 9},
                    TWO_STRETCHES + [("other", BELOW, NoStretch), ("bits", True, NoNumber), ("bits", 801, NoNumber)]),
    "root_of": ({"one": STRETCH, "bits": 9},
                [("one", None, NoStretch), ("one", BELOW, NoStretch), ("bits", False, NoNumber), ("bits", -1, NoNumber)]),
    "pi_bounds": ({"bits": 9, "by": "five"}, [("by", "three", NoWord)] + BITS),
    "log_two_bounds": ({"bits": 9, "by": "three"}, [("by", "five", NoWord)] + BITS),
    "worth_bounds": ({"word": "root", "number": (3, 0), "bits": 9, "by": "series"}, BOUNDS),
    "is_exact": ({"word": "root", "number": (3, 0)}, EXACT),
    "exact_worth": ({"word": "root", "number": (9, 0)}, EXACT),
    "series_sum": ({"word": "log", "number": (3, 0), "many": 9}, WALK[:2] + [("many", 61, NoNumber)] + WALK[2:]),
    "series_rest": ({"word": "log", "number": (3, 0), "many": 9}, WALK),
    "steps_of": ({"word": "log", "number": (3, -1), "many": 9}, WALK + [("number", (3, 0), NoPlace)]),
    "told": ({"form": FORM, "word": "root", "number": (3, 0), "way": "near", "by": "series"},
             TOLD + [("number", (2 ** 20 + 1, 0), TooGreat)]),
    "shown": ({"form": FORM, "word": "root", "number": (3, 0), "way": "near", "by": "series"}, TOLD),
    "judge_shown": ({"form": FORM, "word": "root", "number": (3, 0), "stretch": STRETCH, "way": "near"}, SHOWN),
    "table": ({"form": FORM, "word": "root", "way": "near"}, WHOLE),
    "hardness": ({"form": FORM, "word": "root", "number": (3, 0), "way": "near"}, SHOWN),
    "hardest": ({"form": FORM, "word": "root", "way": "near"}, WHOLE),
    "hard_paper": ({"form": FORM, "word": "root", "way": "near"}, WHOLE),
    "judge_paper": ({"form": FORM, "word": "root", "thing": PAPER, "way": "near"}, WHOLE),
    "number_text": ({"number": (3, 0)}, NUMBER),
    "read_number": ({"text": "3p-4"}, TEXT + [("text", "2p0", NoText)]),
    "decimal_text": ({"number": (3, 0)}, NUMBER),
    "read_decimal": ({"text": "0.75"}, TEXT + [("text", "0.7", NoText)]),
}
MADE = {
    "Form": ({"bits": 4, "least": -6, "most": 3}, FORMS),
    "Stretch": ({"low": (1, 0), "high": (3, 0)}, [(name, thing, NoNumber) for name in ("low", "high")
                                                 for thing in NO_NUMBERS] + [("low", (5, 0), NoStretch)]),
    "Works": ({}, []),
    "Desk": ({"bits": 8, "least": -12, "most": 8}, FORMS[:-1] + [("most", -12, NoForm)]),
}
OBJECTS = {"Form": lambda: Form(4, least=-6, most=3), "Stretch": lambda: Stretch((1, -2), (3, -2)),
           "Works": Works, "Desk": Desk}
METHODS = {
    "Form": {"has": ({"number": (1, 0)}, NUMBER), "count": ({}, []), "top": ({}, []), "numbers": ({}, []),
             "above": ({"number": (1, 0)}, NUMBER), "below": ({"number": (1, 0)}, NUMBER),
             "step": ({"number": (1, 0)}, NUMBER)},
    "Stretch": {"holds": ({"number": (1, 0)}, NUMBER), "width": ({}, []),
                "common": ({"other": STRETCH}, [("other", thing, NoStretch) for thing in (None, (1, 0), FORM)]),
                "within": ({"other": STRETCH}, [("other", thing, NoStretch) for thing in (None, (1, 0), FORM)])},
    "Works": {"told": ASKED["told"], "shown": ASKED["shown"], "worth_bounds": ASKED["worth_bounds"],
              "hardness": ASKED["hardness"], "pi_bounds": ({"bits": 9}, BITS), "log_two_bounds": ({"bits": 9}, BITS),
              "known": ({}, []), "forget": ({}, [])},
    "Desk": {"tell": ({"line": "sin 3p0"}, [("line", thing, NoLine) for thing in (None, True, 1, "", " ", ["bits"])])},
}


def questions():
    """The name, a maker of what is called, the arguments and the refusals of each function, class and method."""
    for file_name, functions in FUNCTIONS.items():
        module = importlib.import_module(f"oncenear.{file_name}")
        for name in functions:
            yield name, lambda name=name, module=module: getattr(module, name), *ASKED[name]
    for file_name, classes in CLASSES.items():
        module = importlib.import_module(f"oncenear.{file_name}")
        for name in classes:
            if file_name != "errors":
                yield name, lambda name=name, module=module: getattr(module, name), *MADE[name]
                for method, asked in METHODS[name].items():
                    yield f"{name}.{method}", lambda name=name, method=method: getattr(OBJECTS[name](), method), *asked


def plain(answer):
    """What an answer is made of, so that those of works and desks can be compared, too."""
    if isinstance(answer, (Works, Desk)):
        return repr(answer.__class__)
    return answer


class Whole(unittest.TestCase):
    def test_all_of_the_interface_is_asked_here(self):
        self.assertEqual(set(ASKED), {name for functions in FUNCTIONS.values() for name in functions})
        for classes in CLASSES.values():
            for name, methods in classes.items():
                if name in METHODS:
                    self.assertEqual(set(METHODS[name]), {method for method in methods if not method.startswith("_")})

    def test_by_places_by_names_and_with_defaults_left_out(self):
        for name, make, asked, _ in questions():
            parameters = inspect.signature(make()).parameters
            placed = [key for key, part in parameters.items() if part.kind == part.POSITIONAL_OR_KEYWORD]
            starred = [key for key, part in parameters.items() if part.kind == part.KEYWORD_ONLY]
            with self.subTest(name):
                self.assertEqual(set(parameters), set(asked))
                by_names = plain(make()(**asked))
                self.assertEqual(plain(make()(**dict(reversed(asked.items())))), by_names)
                by_places = [asked[key] for key in placed]
                self.assertEqual(plain(make()(*by_places, **{key: asked[key] for key in starred})), by_names)
                if starred:
                    self.assertRaises(TypeError, make(), *by_places, *[asked[key] for key in starred])
                left = {key: asked[key] for key in asked if parameters[key].default != asked[key]}
                self.assertEqual(plain(make()(**left)), by_names)
                for key in left:
                    if parameters[key].default is inspect.Parameter.empty:
                        self.assertRaises(TypeError, make(), **{other: left[other] for other in left if other != key})

    def test_nothing_handed_in_is_changed_and_the_same_is_told_again(self):
        for name, make, asked, refusals in questions():
            before = copy.deepcopy(asked)
            with self.subTest(name):
                first = plain(make()(**asked))
                kept = copy.deepcopy(first)
                self.assertEqual(asked, before)
                for key, thing, refusal in refusals:
                    wrong = copy.deepcopy(thing)
                    self.assertRaises(refusal, make(), **{**asked, key: thing})
                    self.assertEqual(thing, wrong)
                self.assertEqual(asked, before)
                spoil(first)
                self.assertEqual(plain(make()(**asked)), kept)

    def test_the_order_of_refusals(self):
        for name, make, asked, refusals in questions():
            for (key, thing, refusal), (other_key, other, other_refusal) in product(refusals, repeat=2):
                if key != other_key and refusals.index((key, thing, refusal)) < refusals.index(
                        (other_key, other, other_refusal)):
                    with self.subTest(name=name, first=(key, thing), second=(other_key, other)):
                        self.refused(make(), {**asked, key: thing, other_key: other}, refusal, thing)

    def test_all_wrong_at_once(self):
        for name, make, asked, refusals in questions():
            for refused in {refusal: None for _, _, refusal in refusals}:
                # All that is told later is wrong, too; of one argument the first wrong thing counts.
                wrong = {}
                for key, thing, refusal in refusals[[refusal for _, _, refusal in refusals].index(refused):]:
                    wrong.setdefault(key, thing)
                with self.subTest(name=name, refusal=refused):
                    self.refused(make(), {**asked, **wrong}, refused, None)

    def refused(self, ask, asked, refusal, thing):
        """That a question is refused so, with the fields that the refusal has."""
        with self.assertRaises(refusal) as caught:
            ask(**asked)
        self.assertIs(type(caught.exception), refusal)
        if refusal is NoWord and thing is not None:
            self.assertIs(caught.exception.word, thing)
        if refusal is NoPlace:
            self.assertEqual(vars(caught.exception), {"word": asked["word"], "number": asked["number"]})
        if refusal is TooMany:
            self.assertEqual(vars(caught.exception), {"many": 1001})
        if refusal is TooGreat:
            self.assertEqual(list(vars(caught.exception)), ["number"])

    def test_true_and_false_are_no_whole_numbers(self):
        for name, make, asked, refusals in questions():
            for key, thing in asked.items():
                if type(thing) is int and name != "is_number":
                    expected = next(refusal for other, _, refusal in refusals if other == key)
                    for truth in (True, False):
                        with self.subTest(name=name, key=key, truth=truth):
                            self.assertRaises(expected, make(), **{**asked, key: truth})

    def test_what_is_so_is_told_as_true_or_false(self):
        for name, wanted in (("is_number", True), ("is_exact", False), ("judge_shown", False), ("judge_paper", True),
                             ("Form.has", True), ("Stretch.holds", False), ("Stretch.within", True)):
            found = [make()(**asked) for other, make, asked, _ in questions() if other == name]
            self.assertEqual(found, [wanted])
            self.assertIs(type(found[0]), bool)

    def test_each_refusal_is_a_class_of_its_own(self):
        found = [getattr(errors, name) for name in CLASSES["errors"]]
        self.assertEqual(len(set(found)), 9)
        for one, other in product(found, repeat=2):
            self.assertEqual(issubclass(one, other), one is other)


def spoil(answer):
    """Change all lists of an answer, those within it, too."""
    if isinstance(answer, (list, tuple)):
        for part in answer:
            spoil(part)
    if isinstance(answer, list):
        answer.reverse()
        answer.append("spoiled")


class Lists(unittest.TestCase):
    def test_lists_are_the_askers_own(self):
        asks = [FORM.numbers, lambda: table(FORM, "exp"), lambda: steps_of("log", (3, -1), 60),
                lambda: hardest(FORM, "sin"), lambda: hard_paper(FORM, "sin")]
        for ask in asks:
            first, other = ask(), ask()
            kept = copy.deepcopy(first)
            spoil(first)
            self.assertEqual(other, kept)
            self.assertEqual(ask(), kept)

    def test_what_is_done_later_changes_none(self):
        desk, works = Desk(), Works()
        first = hard_paper(FORM, "sin")
        kept = copy.deepcopy(first)
        stretch = works.shown(FORM, "sin", (7, 0))
        again = Stretch(stretch.low, stretch.high)
        for _ in range(3):
            hardest(FORM, "sin")
            desk.tell("table sin" if desk.tell("form 4 -6 3") else "bits")
            works.worth_bounds("sin", (7, 0), bits=600, by="steps")
            works.forget()
        self.assertEqual(first, kept)
        self.assertEqual(stretch, again)

    def test_papers_and_tables_hold_no_shared_lists(self):
        for answer in (table(FORM, "root"), hard_paper(FORM, "root")):
            for row in answer:
                self.assertIsInstance(row, tuple)
                for part in row:
                    self.assertNotIsInstance(part, list)

    def test_forms_and_stretches_that_are_handed_in(self):
        form, stretch = Form(4, least=-6, most=3), shown(FORM, "exp", (1, 0))
        before = (vars(form).copy(), vars(stretch).copy())
        for name, make, asked, _ in questions():
            changed = dict(asked)
            if "form" in changed:
                changed["form"] = form
            if "stretch" in changed:
                changed["stretch"] = stretch
            make()(**changed)
        self.assertEqual((vars(form), vars(stretch)), before)
