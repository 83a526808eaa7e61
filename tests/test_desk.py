"""Point 18: a desk."""

import random
import unittest
from itertools import product

from oncenear.desk import Desk
from oncenear.dots import plus
from oncenear.errors import NoForm, NoLine, NoPlace, NoText, NoWord, TooGreat, TooMany
from oncenear.hardness import hardest, hardness
from oncenear.rounding import Form
from oncenear.stretches import Stretch
from oncenear.telling import judge_shown, table, told
from oncenear.texts import number_text, read_number
from tests.helpers import FORM, NO_WHOLES, STRETCH, told_soon
from tests.test_telling import WAYS
from tests.test_worths import CASES, FUNCTIONS, METHODS

FIRST = "Form(8, least=-12, most=8)"
NO_LINES = [None, True, False, 0, 7, (), [], ["bits"], ("bits",), [["bits"]], (1, 0), b"bits", FORM, STRETCH]


def is_told(form, word, number, way):
    """Whether told tells something."""
    try:
        return bool(told(form, word, number, way=way))
    except TooGreat:
        return False


class Lines(unittest.TestCase):
    def setUp(self):
        self.desk = Desk()

    def told(self, *pairs):
        """That the lines are answered so."""
        for line, answer in pairs:
            with self.subTest(line):
                self.assertEqual(self.desk.tell(line), answer)

    def test_form_way_and_by(self):
        self.told(("form 4 -6 3", "Form(4, least=-6, most=3)"), ("exp 1p0", "11p-2"), ("way down", "down"),
                  ("exp 1p0", "5p-1"), ("by halves", "halves"), ("exp 1p0", "5p-1"), ("by steps", "steps"),
                  ("exp 1p0", "5p-1"), ("by series", "series"), ("way near", "near"), ("exp 1p0", "11p-2"),
                  ("form 1 0 1", "Form(1, least=0, most=1)"), ("form 200 -400 400", "Form(200, least=-400, most=400)"),
                  ("form 1 300 301", "Form(1, least=300, most=301)"))
        for way in WAYS:
            self.told((f"way {way}", way))
        for by in METHODS:
            self.told((f"by {by}", by))

    def test_at_first(self):
        form = Form(8, least=-12, most=8)
        for word in FUNCTIONS:
            self.told((f"{word} 3p-1", number_text(told(form, word, (3, -1)))))
        self.assertEqual(Desk(bits=4, least=-6, most=3).tell("exp 1p0"), "11p-2")
        self.assertEqual(Desk().tell("bits"), "0 0")

    def test_each_function_way_and_method(self):
        for word, way, by in product(FUNCTIONS, WAYS, METHODS):
            self.told(("form 9 -20 90", "Form(9, least=-20, most=90)"), (f"way {way}", way), (f"by {by}", by))
            form = Form(9, least=-20, most=90)
            for number in [number for number in CASES[word][3::5] if is_told(form, word, number, way)]:
                text = number_text(number)
                self.told((f"{word} {text}", number_text(told(form, word, number, way=way))))
                low, high = [read_number(end) for end in self.desk.tell(f"show {word} {text}").split(" ")]
                self.assertIs(judge_shown(form, word, number, Stretch(low, high), way=way), True)
                hard = hardness(form, word, number, way=way)
                self.told((f"hard {word} {text}", "exact" if hard is None else str(hard)))

    def test_exact_ones(self):
        self.told(("show exp 0p0", "1p0 1p0"), ("hard exp 0p0", "exact"), ("show root 9p-2", "3p-1 3p-1"),
                  ("hard root 9p-2", "exact"), ("log 1p0", "0p0"), ("show log 1p0", "0p0 0p0"), ("sin 0p0", "0p0"),
                  ("hard cos 0p0", "exact"), ("arc 0p0", "0p0"), ("root 0p0", "0p0"), ("hard arc 0p0", "exact"))

    def test_hardest(self):
        self.told(("form 4 -6 3", "Form(4, least=-6, most=3)"), ("hardest sin", "6 -7p0 7p0"))
        for word, way in product(FUNCTIONS, WAYS):
            level, numbers = hardest(FORM, word, way=way)
            self.told((f"way {way}", way),
                      (f"hardest {word}", " ".join([str(level)] + [number_text(number) for number in numbers])))
        self.told(("form 1 0 1", "Form(1, least=0, most=1)"), ("hardest root", "exact"), ("hardest log", "exact"),
                  ("form 200 -9 -1", "Form(200, least=-9, most=-1)"), ("hardest exp", "exact"))

    def test_table(self):
        self.told(("form 2 0 2", "Form(2, least=0, most=2)"), ("table root", "4 1p2"), ("way up", "up"),
                  ("table root", "4 5p0"), ("way down", "down"), ("table root", "4 3p0"), ("table cos", "7 -3p0"),
                  ("form 1 300 301", "Form(1, least=300, most=301)"), ("table sin", "3 -1p300"),
                  ("form 2 -9 -8", "Form(2, least=-9, most=-8)"), ("table exp", "0 0p0"))
        for form, word, way in product((FORM, Form(1, least=-9, most=9)), FUNCTIONS, WAYS):
            self.told((f"form {form.bits} {form.least} {form.most}", repr(form)), (f"way {way}", way))
            rows = table(form, word, way=way)
            total = (0, 0)
            for _, answer in rows:
                total = plus(total, answer)
            self.told((f"table {word}", f"{len(rows)} {number_text(total)}"))

    def test_bits(self):
        self.told(("bits", "0 0"), ("root 3p0", "111p-6"), ("bits", "0 0"))
        self.desk.tell("sin 3p500")
        pi_bits, log_two_bits = [int(part) for part in self.desk.tell("bits").split(" ")]
        self.assertGreater(pi_bits, 500)
        self.assertEqual(log_two_bits, 0)
        self.desk.tell("exp 3p0")
        other, log_two_bits = [int(part) for part in self.desk.tell("bits").split(" ")]
        self.assertEqual(other, pi_bits)
        self.assertGreater(log_two_bits, 8)
        known = self.desk.tell("bits")
        for line in ("sin 3p500", "exp 3p0", "form 1 0 1", "undo", "bits"):
            self.desk.tell(line)
        self.assertEqual(self.desk.tell("bits"), known)

    def test_desks_have_their_own(self):
        other = Desk()
        self.desk.tell("sin 3p500")
        self.desk.tell("form 1 0 1")
        self.assertEqual(other.tell("bits"), "0 0")
        self.assertRaises(NoLine, other.tell, "undo")
        self.assertEqual(other.tell("exp 1p0"), "87p-5")

    def test_the_greatest_forms_soon(self):
        for line in ("form 1 -400 99", "form 200 -9 -1", "form 6 -14 1"):
            self.desk.tell(line)
            for word, kind in product(FUNCTIONS, ("table", "hardest")):
                told_soon(self, lambda: self.desk.tell(f"{kind} {word}"), 2)


class Undone(unittest.TestCase):
    def test_one_behind_another(self):
        desk = Desk()
        for line in ("form 4 -6 3", "way down", "by halves", "form 5 -6 3"):
            desk.tell(line)
        self.assertEqual(desk.tell("undo"), "Form(4, least=-6, most=3)")
        self.assertEqual(desk.tell("exp 1p0"), "5p-1")
        self.assertEqual(desk.tell("undo"), "Form(4, least=-6, most=3)")
        self.assertEqual(desk.tell("exp 1p0"), "5p-1")
        self.assertEqual(desk.tell("undo"), "Form(4, least=-6, most=3)")
        self.assertEqual(desk.tell("exp 1p0"), "11p-2")
        self.assertEqual(desk.tell("undo"), FIRST)
        self.assertEqual(desk.tell("exp 1p0"), "87p-5")
        self.assertRaises(NoLine, desk.tell, "undo")
        self.assertRaises(NoLine, desk.tell, "undo")
        self.assertEqual(desk.tell("way up"), "up")
        self.assertEqual(desk.tell("undo"), FIRST)

    def test_none(self):
        desk = Desk()
        self.assertRaises(NoLine, desk.tell, "undo")
        desk.tell("exp 1p0")
        desk.tell("show exp 1p0")
        self.assertRaises(NoLine, desk.tell, "undo")

    def test_a_line_that_changed_nothing_counts(self):
        desk = Desk()
        desk.tell("way up")
        desk.tell("way up")
        desk.tell("form 8 -12 8")
        desk.tell("by series")
        for way in ("87p-5", "87p-5", "87p-5"):
            self.assertEqual(desk.tell("undo"), FIRST)
            self.assertEqual(desk.tell("exp 1p0"), way)
        self.assertEqual(desk.tell("hard exp 1p0"), str(hardness(Form(8, least=-12, most=8), "exp", (1, 0), way="up")))
        self.assertEqual(desk.tell("undo"), FIRST)
        self.assertEqual(desk.tell("hard exp 1p0"), str(hardness(Form(8, least=-12, most=8), "exp", (1, 0))))
        self.assertRaises(NoLine, desk.tell, "undo")

    def test_refused_lines_do_not_count(self):
        desk = Desk()
        desk.tell("form 4 -6 3")
        desk.tell("way up")
        for line in ("form 0 0 0", "form a b c", "way sideways", "by hand", "form 1 2", "", "undo it"):
            self.assertRaises((NoForm, NoLine, NoWord), desk.tell, line)
        self.assertEqual(desk.tell("exp 3p-2"), "9p-2")
        self.assertEqual(desk.tell("undo"), "Form(4, least=-6, most=3)")
        self.assertEqual(desk.tell("exp 3p-2"), "1p1")
        self.assertEqual(desk.tell("undo"), FIRST)
        self.assertRaises(NoLine, desk.tell, "undo")

    def test_undone_lines_do_not_count_again(self):
        desk = Desk()
        desk.tell("form 4 -6 3")
        desk.tell("form 5 -6 3")
        self.assertEqual(desk.tell("undo"), "Form(4, least=-6, most=3)")
        desk.tell("form 6 -6 3")
        self.assertEqual(desk.tell("undo"), "Form(4, least=-6, most=3)")
        self.assertEqual(desk.tell("undo"), FIRST)

    def test_a_hundred_and_more(self):
        desk = Desk()
        chance = random.Random(100)
        form, way, by = Form(8, least=-12, most=8), "near", "series"
        states = []
        for _ in range(400):
            states.append((form, way, by))
            kind = chance.choice(("form", "way", "by"))
            if kind == "form":
                form = Form(chance.randrange(1, 20), least=chance.randrange(-30, -9), most=chance.randrange(9, 20))
                self.assertEqual(desk.tell(f"form {form.bits} {form.least} {form.most}"), repr(form))
            elif kind == "way":
                way = chance.choice(WAYS)
                self.assertEqual(desk.tell(f"way {way}"), way)
            else:
                by = chance.choice(METHODS)
                self.assertEqual(desk.tell(f"by {by}"), by)
        for form, way, by in states[::-1]:
            self.assertEqual(desk.tell("undo"), repr(form))
            self.assertEqual(desk.tell("exp 5p-2"), number_text(told(form, "exp", (5, -2), way=way)))
        self.assertRaises(NoLine, desk.tell, "undo")
        self.assertEqual(desk.tell("by steps"), "steps")

    def test_what_was_found_is_kept(self):
        desk = Desk()
        desk.tell("way up")
        desk.tell("sin 3p100")
        known = desk.tell("bits")
        desk.tell("undo")
        self.assertEqual(desk.tell("bits"), known)


class Refused(unittest.TestCase):
    def setUp(self):
        self.desk = Desk()
        for line in ("form 4 -6 3", "way up", "by steps", "sin 3p20", "exp 3p-1"):
            self.desk.tell(line)

    def refused(self, refusal, line):
        """That a line is refused, and that nothing is changed behind it; the refusal."""
        known = self.desk.tell("bits")
        with self.subTest(line):
            with self.assertRaises(refusal) as caught:
                self.desk.tell(line)
            self.assertIs(type(caught.exception), refusal)
            if refusal is not TooGreat:
                self.assertEqual(self.desk.tell("bits"), known)
            self.assertEqual(self.desk.tell("exp 1p0"), "11p-2")
            # The sine of 1 by 64 is about 2 ** -20.6 from it, and steps are 2 ** -6; by the way near it were 6.
            self.assertEqual(self.desk.tell("hardest sin"), "14 -1p-6 1p-6")
        return caught.exception

    def tearDown(self):
        """Nothing was there to undo but what was done at first."""
        for answer in ("Form(4, least=-6, most=3)", "Form(4, least=-6, most=3)", FIRST):
            self.assertEqual(self.desk.tell("undo"), answer)
        self.assertRaises(NoLine, self.desk.tell, "undo")

    def test_blanks(self):
        for line in ("", " ", "  ", "bits ", " bits", "exp  1p0", "exp 1p0 ", " exp 1p0", "exp 1p0  ", "way  up",
                     "form 4 -6  3", "form 4 -6 3 ", "undo ", " undo", "way ", "root ", "hardest ", "way  sideways"):
            self.refused(NoLine, line)

    def test_tabs_and_ends_of_lines_are_signs_of_words(self):
        for line in ("\t", "\n", "exp\t1p0", "bits\n", "\tbits", "undo\n", "exp\n 1p0", "form 4 -6 3\n", "form\t4 -6 3",
                     "hardest sin\n", "table\tsin", "show exp\t1p0", "show exp\t 1p0", "hard sin\n 1p0",
                     "form 4 -6 \t3", "exp\u00a01p0", "bits\u2028", "\u00a0", "exp\u3000 1p0"):
            self.refused(NoLine, line)
        for line in ("exp 1p0\n", "exp \t1p0", "show exp 1p0\n", "hard exp 1p0\t", "exp 1p0\u00a0"):
            self.refused(NoText, line)
        self.assertEqual(self.refused(NoWord, "way up\n").word, "up\n")
        self.assertEqual(self.refused(NoWord, "by \tsteps").word, "\tsteps")

    def test_no_such_lines(self):
        for line in ("x", "Exp 1p0", "sqrt 1p0", "tell exp 1p0", "told exp 1p0", "1p0 exp", "exp", "exp 1p0 1p0", "show",
                     "show exp", "show 1p0", "show exp 1p0 up", "hard", "hard exp", "hard exp 1p0 near", "hardest",
                     "hardest exp 1p0", "table", "table exp up", "bits 0", "bits exp", "undo 1", "undo undo", "form",
                     "form 4", "form 4 -6", "form 4 -6 3 2", "way", "way up down", "by", "by steps halves", "known",
                     "UNDO", "Bits", "series", "near", "4 -6 3", "Form(4, least=-6, most=3)", "help", "?"):
            self.refused(NoLine, line)

    def test_words_that_are_no_functions(self):
        for word in ("sqrt", "Root", "near", "series", "form", "1p0", "0", "bits", "exp,", "show"):
            for line in (f"show {word} 1p0", f"show {word} 2p0", f"hard {word} 1p0", f"hard {word} x", f"hardest {word}",
                         f"table {word}"):
                self.refused(NoLine, line)

    def test_form_lines(self):
        for word in ("a", "", "4.0", "04", "+4", "-", "--4", "4-", "-0", "00", "1p2", "1e1", "\u0664", "\uff14", "4_0",
                     "True", "None", "-04", "0x4", "\u00b2"):
            for line in (f"form {word} -6 3", f"form 4 {word} 3", f"form 4 -6 {word}", f"form {word} {word} {word}",
                         f"form 0 0 {word}"):
                self.refused(NoLine, line)
        for line in ("form 0 -6 3", "form -1 -6 3", "form 201 -6 3", "form 4 -401 3", "form 4 301 302", "form 4 -6 -6",
                     "form 4 -6 401", "form 4 3 -6", "form 4 0 0", f"form {10 ** 390} -6 3", f"form 4 -{10 ** 390} 3",
                     f"form 4 -6 {10 ** 390}"):
            self.refused(NoForm, line)

    def test_ways_and_methods(self):
        for word in ("sideways", "Up", "nearest", "series", "root", "0", "1p0", "-", "up,", "way", "\u00fcp"):
            self.assertEqual(self.refused(NoWord, f"way {word}").word, word)
        for word in ("hand", "Steps", "half", "near", "root", "0", "1p0", "-", "by"):
            self.assertEqual(self.refused(NoWord, f"by {word}").word, word)

    def test_numbers(self):
        for text in ("1", "2p0", "0p1", "01p0", "-0p0", "1p-0", "1.5", "p", "x", "1p0p0", "+1p0", "1p", "\u0661p0", "root"):
            for line in (f"exp {text}", f"root {text}", f"show log {text}", f"hard sin {text}"):
                self.refused(NoText, line)

    def test_places(self):
        for word, number in (("root", (-1, 0)), ("log", (0, 0)), ("log", (-3, 2)), ("exp", (1001, 0)), ("sin", (1, 800)),
                             ("cos", (-1, 800)), ("arc", (3, 799))):
            for line in (f"{word} {number_text(number)}", f"show {word} {number_text(number)}",
                         f"hard {word} {number_text(number)}"):
                self.assertEqual(vars(self.refused(NoPlace, line)), {"word": word, "number": number})

    def test_too_great_and_too_many(self):
        self.assertEqual(self.refused(TooGreat, "exp 9p0").number, (1, 13))
        self.assertEqual(self.refused(TooGreat, "root 81p0").number, (9, 0))
        desk = Desk()
        for word, kind in product(FUNCTIONS, ("table", "hardest")):
            with self.assertRaises(TooMany) as caught:
                desk.tell(f"{kind} {word}")
            self.assertEqual(caught.exception.many, Form(8, least=-12, most=8).count())
        self.assertRaises(NoLine, desk.tell, "table sqrt")
        self.assertEqual(desk.tell("bits"), "0 0")

    def test_things_that_are_no_lines(self):
        for thing in NO_LINES:
            self.refused(NoLine, thing)

    def test_lengths(self):
        for many in (1000, 999):
            word = "u" * (many - 4)
            self.assertEqual(self.refused(NoWord, f"way {word}").word, word)
            self.refused(NoForm, "form " + "9" * (many - 9) + " 0 1")
            self.refused(NoText, "exp " + "x" * (many - 4))
            self.refused(NoLine, "x" * many)
        self.refused(NoLine, "way " + "u" * 997)
        self.refused(NoLine, "form " + "9" * 992 + " 0 1")
        self.refused(NoLine, "exp " + "x" * 997)

    def test_long_numbers(self):
        desk = Desk()
        self.assertEqual(desk.tell("form 200 -400 400"), "Form(200, least=-400, most=400)")
        form = Form(200, least=-400, most=400)
        number = (2 ** 800 - 1, -600)
        for word in FUNCTIONS:
            if word != "exp":
                self.assertEqual(desk.tell(f"{word} {number_text(number)}"), number_text(told(form, word, number)))
        number = (10 ** 991 + 1, 100)
        line = f"log {number_text(number)}"
        self.assertEqual(len(line), 1000)
        self.assertEqual(desk.tell(line), number_text(told(form, "log", number)))


class Made(unittest.TestCase):
    def test_forms(self):
        self.assertEqual(Desk(most=3, least=-6, bits=4).tell("exp 1p0"), "11p-2")
        desk = Desk(bits=4)
        self.assertEqual(desk.tell("way up"), "up")
        self.assertEqual(desk.tell("undo"), "Form(4, least=-12, most=8)")
        self.assertRaises(TypeError, Desk, 8)
        self.assertRaises(TypeError, Desk, 8, -12, 8)

    def test_no_forms(self):
        for name, thing in product(("bits", "least", "most"), NO_WHOLES):
            self.assertRaises(NoForm, Desk, **{name: thing})
        for values in ({"bits": 0}, {"bits": 201}, {"least": -401}, {"least": 8}, {"most": -12}, {"most": 401},
                       {"least": 301, "most": 302}):
            self.assertRaises(NoForm, Desk, **values)

    def test_by_name(self):
        self.assertEqual(Desk().tell(line="bits"), "0 0")
        self.assertRaises(TypeError, Desk().tell)

    def test_numbers_are_written_as_texts(self):
        self.assertRaises(NoText, Desk().tell, "exp (1,0)")
        self.assertRaises(NoText, Desk().tell, "exp 0.5")
