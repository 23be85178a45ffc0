"""The names, the arguments and the methods of the interface, and the README's examples."""

import importlib
import inspect
import pathlib
import unittest

FUNCTIONS = {
    "things": {
        "is_thing": "(thing)", "is_hole": "(thing)", "fits": "(thing, hole)", "meet": "(one, other)",
        "join": "(one, other)",
    },
    "scales": {"is_scale": "(thing, many)", "worth": "(scale, thing)"},
    "rules": {"is_rule": "(thing, many)", "keeps": "(rule, thing)"},
    "arrows": {"arrow": "(lot, one, other)", "shared": "(lot)"},
    "spreads": {
        "spread": "(row, lot, name, *, out=True)", "first_wrong": "(row, lot)", "grades": "(row, lot)",
    },
    "counts": {"counted": "(row, least, greatest)"},
    "grading": {"graded": "(lot)"},
    "ringlooks": {"shows_ring": "(lot, thing)"},
    "rising": {"scale_of": "(lot)", "rising": "(lot)"},
    "orders": {"many_orders": "(lot)", "order_at": "(lot, number)", "number_of": "(lot, names)"},
    "needs": {"needs": "(lot)"},
    "needlooks": {"shows_needs": "(lot, names, rings)"},
    "stretches": {"least_of": "(lot, name)"},
    "manyrows": {"many_row": "(lot)"},
    "slacks": {"slack": "(row, lot)"},
    "bestslack": {"best_slack": "(lot)", "shows_slack": "(lot, error, thing)"},
    "wear": {"borne": "(lot)", "last_run": "(lot, *, rates)"},
    "growth": {"row_lasts": "(row, lot, *, growth=1)"},
    "hanging": {"hung": "(lot, holes)"},
    "putting": {"put_in": "(lot, row, sort)"},
    "seenlooks": {"shows_why": "(seen, thing, place, paper)"},
    "alike": {"parting": "(row, other)", "spared": "(row)", "bared": "(row)"},
    "play": {"play": "(row, lot, place, measure)"},
    "texts": {"show_row": "(row)", "show_lot": "(lot)"},
    "readers": {"read_row": "(text)", "read_lot": "(text)"},
}
CLASSES = {
    ("rows", "Row"): {
        "__init__": "(self, holes)", "holes": "(self)", "bins": "(self)", "place_of": "(self, thing)",
        "bin_of": "(self, thing)", "__eq__": "(self, other)", "__len__": "(self)", "__str__": "(self)",
    },
    ("lots", "Lot"): {
        "__init__": "(self, sorts)", "names": "(self)", "sorts": "(self)", "sort_of": "(self, name)",
        "measures": "(self)", "has": "(self, name, thing)", "__eq__": "(self, other)", "__len__": "(self)",
    },
    ("seen", "Seen"): {
        "__init__": "(self, holes, *, measures=1)", "saw": "(self, thing, place)", "falls": "(self)",
        "places": "(self, thing)", "why": "(self, thing, place)", "__eq__": "(self, other)",
    },
    ("works", "Works"): {
        "__init__": "(self, rows, first)", "goes": "(self, thing)", "wrong": "(self, lot)", "grades": "(self, lot)",
        "__eq__": "(self, other)",
    },
    ("house", "House"): {
        "__init__": "(self)", "tell": "(self, sort)", "drop": "(self, name)", "piece": "(self, number, name, thing)",
        "take": "(self, number)", "back": "(self)", "wear": "(self, number, thing)", "run": "(self, number)",
        "lot": "(self)", "row": "(self)", "pieces": "(self)", "runs": "(self)", "hung_anew": "(self)",
        "twin": "(self)", "__eq__": "(self, other)",
    },
    ("desk", "Desk"): {"__init__": "(self)", "say": "(self, row)"},
}
README = pathlib.Path(__file__).resolve().parent.parent / "README.md"


class Interface(unittest.TestCase):
    def test_functions(self):
        for module, names in FUNCTIONS.items():
            for name, told in names.items():
                found = getattr(importlib.import_module(f"gapgrades.{module}"), name)
                self.assertEqual(str(inspect.signature(found)), told, name)

    def test_methods_stand_in_the_class_itself(self):
        for (module, name), methods in CLASSES.items():
            found = getattr(importlib.import_module(f"gapgrades.{module}"), name)
            for method, told in methods.items():
                self.assertEqual(str(inspect.signature(vars(found)[method])), told, (name, method))

    def test_examples_of_the_readme(self):
        parts = README.read_text().split("```python\n")[1:]
        self.assertTrue(parts)
        for part in parts:
            known = {}
            for line in part.split("```")[0].splitlines():
                code, _, told = line.partition("  # ")
                told = told.strip().split(": ")[0]
                if told and " = " not in code:
                    self.assertEqual(eval(code, known), eval(told, known), line)
                else:
                    exec(code, known)
