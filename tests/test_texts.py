"""Point 17: texts of numbers."""

import random
import unittest
from decimal import Decimal, localcontext
from fractions import Fraction
from itertools import product

from oncenear.dots import number_of, times
from oncenear.errors import NoNumber, NoText
from oncenear.telling import shown
from oncenear.texts import decimal_text, number_text, read_decimal, read_number
from tests.helpers import FORM, NO_NUMBERS, STRETCH, told_soon, worth
from tests.oracle import context

NO_TEXTS = [None, True, False, 0, 1, -3, 10 ** 399, (), [], (1, 0), (0, 0), ("1p0",), ["1p0"], ["1", "p", "0"], [[]],
            FORM, STRETCH, b"1p0"]
NUMBERS = [(0, 0), (1, 0), (-1, 0), (3, -4), (-5, 0), (9, 1), (-7, 10), (101, -100), (2 ** 800 - 1, 800),
           (1 - 2 ** 800, -800), (2 ** 4000 - 1, 4000), (1 - 2 ** 4000, -4000), (10 ** 60 + 1, 60), (10 ** 60 - 1, -60),
           (10 ** 120 + 10 ** 60 + 1, 0), (10 ** 121 + 1, 0), (10 ** 59 + 1, 0), (1, -1), (1, 1), (5 ** 300, -300)]


def decimal_of(number):
    """The text of a number in tens, told by decimals."""
    with localcontext(context(9000)):
        text = f"{Decimal(number[0]) * Decimal(2) ** number[1]:f}"
    return text


class NumberTexts(unittest.TestCase):
    def test_known_ones(self):
        for number, text in (((3, -4), "3p-4"), ((-5, 0), "-5p0"), ((0, 0), "0p0"), ((1, 10), "1p10"),
                             ((-1, -100), "-1p-100"), ((10 ** 30 + 1, 7), "1" + "0" * 29 + "1p7")):
            self.assertEqual(number_text(number), text)
            self.assertEqual(read_number(text), number)

    def test_there_and_back(self):
        for number in NUMBERS:
            text = number_text(number)
            self.assertEqual(text, f"{number[0]}p{number[1]}")
            self.assertEqual(read_number(text), number)
            self.assertTrue(all(type(part) is int for part in read_number(text)))

    def test_by_chance(self):
        chance = random.Random(17)
        for _ in range(2000):
            m = chance.getrandbits(chance.choice((1, 3, 9, 64, 197, 200, 203, 400, 800)))
            number = number_of(chance.choice((1, -1)) * m, chance.randrange(-800, 801))
            self.assertEqual(number_text(number), f"{number[0]}p{number[1]}")
            self.assertEqual(read_number(number_text(number)), number)

    def test_what_is_no_number_of_its_own_telling(self):
        for m, e in product(range(-9, 10), range(-12, 13)):
            text = f"{m}p{e}"
            if m % 2 or (m == 0 and e == 0):
                self.assertEqual(read_number(text), (m, e))
            else:
                self.assertRaises(NoText, read_number, text)

    def test_other_texts(self):
        wrong = ["", "p", "1", "1p", "p1", "p0", "-p0", "1p-", "1pp0", "1p0p", "1p0p0", "01p0", "00p0", "0p00", "1p00",
                 "1p01", "1p-01", "-01p0", "-0p0", "0p-0", "1p-0", "+1p0", "1p+1", "--1p0", "1p--1", " 1p0", "1p0 ",
                 "1 p0", "1p 0", "1p0\n", "\n1p0", "1p0\t", "1P0", "1e0", "1.0p0", "1p0.0", "1_1p0", "0x1p0", "(1, 0)",
                 "1,0", "3*2**4", "\u0661p0", "1p\u0661", "\u00b3p0", "\uff11p0", "1p\uff10", "-1-p0", "1p0-", "2p0",
                 "-2p3", "0p1", "0p-1", "10p0", "1p0\x00", "None", "Truep0", "1pFalse", "\u22121p0"]
        for text in wrong:
            with self.subTest(text):
                self.assertRaises(NoText, read_number, text)

    def test_many_figures(self):
        for many in (399, 400, 4000):
            m, e = "7" * many, "-" + "9" * many
            number = told_soon(self, lambda: read_number(f"-{m}p{e}"), 1)
            self.assertEqual(number, (-(7 * (10 ** many - 1) // 9), 1 - 10 ** many))
            self.assertEqual(number_text(number), f"-{m}p{e}")
            self.assertRaises(NoText, read_number, f"0{m}p0")
            self.assertRaises(NoText, read_number, f"{m}8p0")
            self.assertRaises(NoText, read_number, f"{m}x{m}p0")

    def test_somewhat_more_than_promised(self):
        text = "7" * 5001 + "p-3"
        self.assertEqual(number_text(read_number(text)), text)

    def test_told_ones(self):
        for word, by in product(("root", "exp", "sin"), ("series", "halves")):
            stretch = shown(FORM, word, (3, -1), by=by)
            for end in (stretch.low, stretch.high):
                self.assertEqual(read_number(number_text(end)), end)


class DecimalTexts(unittest.TestCase):
    def test_known_ones(self):
        for number, text in (((3, -2), "0.75"), ((-5, 1), "-10"), ((0, 0), "0"), ((1, -1), "0.5"), ((-1, -1), "-0.5"),
                             ((5, 0), "5"), ((1, -10), "0.0009765625"), ((-1025, -10), "-1.0009765625"),
                             ((1, 10), "1024"), ((2001, -1), "1000.5")):
            self.assertEqual(decimal_text(number), text)
            self.assertEqual(read_decimal(text), number)

    def test_against_decimals(self):
        for number in NUMBERS:
            text = told_soon(self, lambda: decimal_text(number), 1)
            self.assertEqual(text, decimal_of(number))
            self.assertEqual(len(text.partition(".")[2]), max(0, -number[1]))

    def test_by_chance(self):
        chance = random.Random(18)
        for _ in range(1000):
            m = chance.getrandbits(chance.choice((1, 3, 9, 64, 199)))
            number = number_of(chance.choice((1, -1)) * m, chance.randrange(-200, 100))
            text = decimal_text(number)
            self.assertEqual(Fraction(text), worth(number))
            self.assertEqual(text, decimal_of(number))
            if len(text) <= 300:
                self.assertEqual(read_decimal(text), number)
            else:
                self.assertRaises(NoText, read_decimal, text)

    def test_noughts_at_the_end(self):
        for text, number in (("0.750", (3, -2)), ("0.0", (0, 0)), ("0." + "0" * 298, (0, 0)), ("10.0", (5, 1)),
                             ("-10.00", (-5, 1)), ("-0.50000", (-1, -1)), ("100", (25, 2)), ("-100.0", (-25, 2)),
                             ("7.000", (7, 0))):
            self.assertEqual(read_decimal(text), number)

    def test_what_is_no_number(self):
        for text in ("0.1", "0.2", "-0.3", "1.7", "0.74", "0.7", "0.05", "1.001", "0." + "3" * 200, "0.15", "123.4567"):
            self.assertRaises(NoText, read_decimal, text)

    def test_all_of_three_figures(self):
        for whole, behind in product(range(0, 30), range(1000)):
            text = f"{whole}.{behind:03}"
            fraction = Fraction(text)
            if fraction.denominator & (fraction.denominator - 1) == 0:
                self.assertEqual(worth(read_decimal(text)), fraction)
            else:
                self.assertRaises(NoText, read_decimal, text)

    def test_other_texts(self):
        wrong = ["", "-", ".", "-.", "5.", "-5.", ".5", "-.5", "00", "00.5", "01", "-01", "007", "-0", "-0.0", "-0.000",
                 "+5", "--5", "5-", "5.-5", "5.5.5", "5..5", "1e5", "1E5", "1_000", "1,5", "1.5 ", " 1.5", "1 .5",
                 "1. 5", "1.5\n", "\t1", "0x10", "1p0", "3/4", "nan", "inf", "Infinity", "\u0661", "1.\u0665",
                 "\u00b2", "\uff15", "-00", "-00.5", "\u22125", "0.5\x00", "one", "0 "]
        for text in wrong:
            with self.subTest(text):
                self.assertRaises(NoText, read_decimal, text)

    def test_lengths(self):
        for text in ("1" * 300, "-" + "9" * 299, "0." + "5".ljust(298, "0"), "-1." + "0" * 297):
            self.assertEqual(len(text), 300)
            self.assertEqual(worth(read_decimal(text)), Fraction(text))
            self.assertRaises(NoText, read_decimal, text + "0")
        self.assertRaises(NoText, read_decimal, "1" * 301)
        self.assertRaises(NoText, read_decimal, "1" * 5000)
        self.assertEqual(read_decimal(decimal_text((1, -297))), (1, -297))
        self.assertEqual(len(decimal_text((1, -298))), 300)
        self.assertEqual(read_decimal(decimal_text((1, -298))), (1, -298))
        self.assertRaises(NoText, read_decimal, decimal_text((1, -299)))
        self.assertRaises(NoText, read_decimal, decimal_text((-1, -298)))

    def test_products_have_all_their_figures(self):
        number = times((3, -2000), (2 ** 1999 + 1, -2000))
        self.assertEqual(decimal_text(number), decimal_of(number))


class Handing(unittest.TestCase):
    def test_no_numbers(self):
        for thing in NO_NUMBERS:
            self.assertRaises(NoNumber, number_text, thing)
            self.assertRaises(NoNumber, decimal_text, thing)

    def test_no_texts(self):
        for thing in NO_TEXTS:
            self.assertRaises(NoText, read_number, thing)
            self.assertRaises(NoText, read_decimal, thing)

    def test_names(self):
        self.assertEqual(number_text(number=(3, -4)), "3p-4")
        self.assertEqual(read_number(text="3p-4"), (3, -4))
        self.assertEqual(decimal_text(number=(3, -2)), "0.75")
        self.assertEqual(read_decimal(text="0.75"), (3, -2))

    def test_any_texts_of_the_signs_that_may_occur(self):
        # All texts of up to four such signs: just those that the document names are read.
        for many in range(5):
            for signs in product("01p-", repeat=many):
                text = "".join(signs)
                before, p, behind = text.partition("p")
                if p and is_plain(before) and is_plain(behind) and (int(before) % 2 or text == "0p0"):
                    self.assertEqual(read_number(text), (int(before), int(behind)))
                else:
                    self.assertRaises(NoText, read_number, text)
            for signs in product("05.-", repeat=many):
                text = "".join(signs)
                before, dot, behind = text.partition(".")
                plain = before == "-0" or is_plain(before)
                figures = behind != "" and set(behind) <= set("05") if dot else True
                if not plain or not figures or (text.startswith("-") and Fraction(text) == 0):
                    self.assertRaises(NoText, read_decimal, text)
                elif Fraction(text).denominator in (1, 2, 4, 8):
                    self.assertEqual(worth(read_decimal(text)), Fraction(text))
                else:
                    self.assertRaises(NoText, read_decimal, text)


def is_plain(text):
    """Whether a text is what Python writes a whole number as."""
    return text.strip("0159-") == "" and text.lstrip("-") != "" and "-" not in text[1:] and str(int(text)) == text
