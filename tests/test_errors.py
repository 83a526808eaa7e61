"""Point 4: the classes of refusals."""

import unittest

from oncenear import errors


class Classes(unittest.TestCase):
    def test_base_classes(self):
        bases = {"NoNumber": ValueError, "NoForm": ValueError, "NoPlace": ValueError, "NoStretch": ValueError,
                 "NoText": ValueError, "NoLine": ValueError, "NoWord": LookupError,
                 "TooGreat": ArithmeticError, "TooMany": ArithmeticError}
        for name, base in bases.items():
            with self.subTest(name):
                self.assertEqual(getattr(errors, name).__bases__, (base,))
                self.assertEqual(getattr(errors, name).__module__, "oncenear.errors")

    def test_those_without_fields(self):
        for name in ("NoNumber", "NoForm", "NoStretch", "NoText", "NoLine"):
            with self.subTest(name):
                self.assertEqual(vars(getattr(errors, name)()), {})
                with self.assertRaises(ValueError):
                    raise getattr(errors, name)("said so")


class Fields(unittest.TestCase):
    def test_no_word(self):
        for thing in ("nearest", "", None, True, 7, (1, 2), ["near"]):
            self.assertEqual(vars(errors.NoWord(thing)), {"word": thing})
            self.assertEqual(vars(errors.NoWord(word=thing)), {"word": thing})

    def test_no_place(self):
        self.assertEqual(vars(errors.NoPlace("log", (0, 0))), {"word": "log", "number": (0, 0)})
        self.assertEqual(vars(errors.NoPlace(number=(-1, 0), word="root")), {"word": "root", "number": (-1, 0)})

    def test_too_great(self):
        self.assertEqual(vars(errors.TooGreat((1, 9))), {"number": (1, 9)})
        self.assertEqual(vars(errors.TooGreat(number=(1, 9))), {"number": (1, 9)})

    def test_too_many(self):
        self.assertEqual(vars(errors.TooMany(1001)), {"many": 1001})
        self.assertEqual(vars(errors.TooMany(many=1001)), {"many": 1001})

    def test_fields_must_be_handed_in(self):
        for name in ("NoWord", "NoPlace", "TooGreat", "TooMany"):
            with self.subTest(name), self.assertRaises(TypeError):
                getattr(errors, name)()

    def test_caught_with_its_field(self):
        with self.assertRaises(LookupError) as caught:
            raise errors.NoWord("sideways")
        self.assertEqual(caught.exception.word, "sideways")
