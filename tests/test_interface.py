"""The interface: names, arguments and defaults as the document lists them, each defined in its own file."""

import ast
import importlib
import inspect
import unittest
from pathlib import Path

PACKAGE = Path(__file__).resolve().parent.parent / "oncenear"

FUNCTIONS = {
    "dots": {"is_number": "(thing)", "number_of": "(m, e=0)", "plus": "(one, other)", "less": "(one, other)",
             "times": "(one, other)", "order_of": "(one, other)"},
    "rounding": {"rounded": "(form, top, bottom=1, *, way='near')"},
    "stretches": {"sum_of": "(one, other)", "product_of": "(one, other)", "quotient_of": "(one, other, *, bits)",
                  "root_of": "(one, *, bits)"},
    "bounds": {"pi_bounds": "(bits, *, by='five')", "log_two_bounds": "(bits, *, by='three')"},
    "worths": {"worth_bounds": "(word, number, *, bits, by='series')", "is_exact": "(word, number)",
               "exact_worth": "(word, number)"},
    "walks": {"series_sum": "(word, number, many)", "series_rest": "(word, number, many)",
              "steps_of": "(word, number, many)"},
    "telling": {"told": "(form, word, number, *, way='near', by='series')",
                "shown": "(form, word, number, *, way='near', by='series')",
                "judge_shown": "(form, word, number, stretch, *, way='near')",
                "table": "(form, word, *, way='near')"},
    "hardness": {"hardness": "(form, word, number, *, way='near')", "hardest": "(form, word, *, way='near')",
                 "hard_paper": "(form, word, *, way='near')", "judge_paper": "(form, word, thing, *, way='near')"},
    "texts": {"number_text": "(number)", "read_number": "(text)", "decimal_text": "(number)",
              "read_decimal": "(text)"},
}
CLASSES = {
    "errors": {"NoNumber": {}, "NoForm": {}, "NoStretch": {}, "NoText": {}, "NoLine": {},
               "NoPlace": {"__init__": "(self, word, number)"}, "NoWord": {"__init__": "(self, word)"},
               "TooGreat": {"__init__": "(self, number)"}, "TooMany": {"__init__": "(self, many)"}},
    "rounding": {"Form": {"__init__": "(self, bits, *, least, most)", "__eq__": "(self, other)",
                          "__repr__": "(self)", "has": "(self, number)", "count": "(self)", "top": "(self)",
                          "numbers": "(self)", "above": "(self, number)", "below": "(self, number)",
                          "step": "(self, number)"}},
    "stretches": {"Stretch": {"__init__": "(self, low, high)", "__eq__": "(self, other)", "__repr__": "(self)",
                              "holds": "(self, number)", "width": "(self)", "common": "(self, other)",
                              "within": "(self, other)"}},
    "works": {"Works": {"__init__": "(self)", "told": "(self, form, word, number, *, way='near', by='series')",
                        "shown": "(self, form, word, number, *, way='near', by='series')",
                        "worth_bounds": "(self, word, number, *, bits, by='series')",
                        "hardness": "(self, form, word, number, *, way='near')", "pi_bounds": "(self, bits)",
                        "log_two_bounds": "(self, bits)", "known": "(self)", "forget": "(self)"}},
    "desk": {"Desk": {"__init__": "(self, *, bits=8, least=-12, most=8)", "tell": "(self, line)"}},
}


def defined_in(file_name, kind):
    """The names that a file of the package defines itself at its top."""
    tree = ast.parse((PACKAGE / f"{file_name}.py").read_text(encoding="utf-8"))
    return [node.name for node in tree.body if isinstance(node, kind)]


class Interface(unittest.TestCase):
    def test_functions(self):
        for file_name, functions in FUNCTIONS.items():
            module = importlib.import_module(f"oncenear.{file_name}")
            for name, arguments in functions.items():
                with self.subTest(file=file_name, name=name):
                    self.assertIn(name, defined_in(file_name, ast.FunctionDef))
                    self.assertEqual(str(inspect.signature(getattr(module, name))), arguments)

    def test_classes(self):
        for file_name, classes in CLASSES.items():
            module = importlib.import_module(f"oncenear.{file_name}")
            for name, methods in classes.items():
                self.assertIn(name, defined_in(file_name, ast.ClassDef))
                for method, arguments in methods.items():
                    with self.subTest(name=name, method=method):
                        own = vars(getattr(module, name))[method]
                        self.assertEqual(str(inspect.signature(own)), arguments)
