"""The interface: where its functions and classes stand, and what they take."""

import importlib
import inspect
import pathlib
import subprocess
import sys
import unittest

from widestparcels import errors
from widestparcels.costs import Costs, Prices
from widestparcels.houses import HouseLog
from widestparcels.live import Search
from widestparcels.log import Log
from widestparcels.road import Road
from widestparcels.widths import Widths

PROJECT = pathlib.Path(__file__).resolve().parent.parent

FUNCTIONS = {
    "words": {
        "is_integer": "(value)",
        "check_number": "(what, value, low, high)",
        "read_number": "(text)",
    },
    "rows": {
        "is_row": "(value)",
        "check_row": "(row)",
        "answered_row": "(row, below, *, in_a_row=False)",
        "silent_row": "(row, below)",
        "sits_in": "(first, second)",
    },
    "best": {
        "least_cost": "(log, prices)",
        "best_probes": "(log, prices)",
        "extras": "(log, prices)",
        "worst_answer": "(log, prices, probe)",
    },
    "plans": {"check_plan": "(log, prices, plan)", "told_plan": "(log, prices)"},
    "courses": {
        "count_courses": "(log, plan)",
        "courses": "(log, plan)",
        "dearest": "(log, prices, plan)",
        "cheapest": "(log, prices, plan)",
        "play": "(log, plan, ask)",
    },
    "papers": {"check_at_least": "(log, prices, v, pairs)", "paper_at_least": "(log, prices)"},
    "foe": {
        "check_foe": "(log, prices, foe)",
        "told_foe": "(log, prices)",
        "play_foe": "(log, prices, plan, foe)",
    },
    "apart": {
        "apart": "(v, prices)",
        "most_apart": "(road, prices, v)",
        "to_strike": "(road, prices, v)",
    },
    "houses": {"least_probes": "(houselog)", "told_probe": "(houselog)"},
    "stand": {
        "through": "(widths, stand, probe)",
        "true_width": "(widths, stand)",
        "find": "(widths, houses, stand)",
    },
    "houseplans": {
        "check_house_plan": "(houselog, plan)",
        "told_house_plan": "(houselog)",
        "check_house_paper": "(houselog, v, pairs)",
        "house_paper": "(houselog)",
    },
    "back": {"fillings": "(road, pairs)", "possible_widths": "(road, pairs)"},
    "texts": {
        "write_log": "(log)",
        "read_log": "(text)",
        "write_plan": "(plan)",
        "read_plan": "(text)",
    },
    "console": {"console": "(road, prices, lines)"},
}

CLASSES = {
    "errors": {
        "ParcelError": None,
        "BadNumber": "(what, value)",
        "BadOrder": "(place)",
        "BadPair": "(place)",
        "BadRow": "(value)",
        "BadPlan": "(state, reason)",
        "BadPaper": "(place, reason)",
        "BadFoe": "(state, number, reason)",
        "BadText": "(line)",
        "BadDeed": "(place)",
        "TooMany": "(limit)",
        "Impossible": None,
        "Unlike": None,
        "NothingToUndo": None,
    },
    "widths": {"Widths": "(*widths)"},
    "road": {"Road": "(widths, losses, *, in_a_row=False)"},
    "log": {"Log": "(road, *pairs)"},
    "costs": {"Prices": "(answer, silence)", "Costs": "(losses, prices, *, in_a_row=False)"},
    "houses": {"HouseLog": "(widths, houses, *pairs)"},
    "live": {"Search": "(road, prices)"},
}

METHODS = {
    ("widths", "Widths"): {
        "__getitem__": None,
        "__contains__": None,
        "__len__": None,
        "__iter__": None,
        "__eq__": None,
        "__le__": None,
        "__or__": None,
        "__and__": None,
        "__sub__": None,
        "below": "(self, x)",
    },
    ("road", "Road"): {"__eq__": None, "probes": "(self)"},
    ("log", "Log"): {
        "__getitem__": None,
        "__len__": None,
        "__iter__": None,
        "__eq__": None,
        "__le__": None,
        "__add__": None,
        "told": "(self, probe, answered)",
        "need": "(self, width)",
        "needs": "(self)",
        "can_be": "(self)",
        "is_impossible": "(self)",
        "known": "(self)",
        "row": "(self)",
        "useful": "(self)",
        "surely": "(self, probe)",
    },
    ("costs", "Prices"): {"__eq__": None, "__mul__": None, "__rmul__": None},
    ("costs", "Costs"): {"__call__": "(self, row)", "best": "(self, row)", "extra": "(self, row, below)"},
    ("houses", "HouseLog"): {
        "__getitem__": None,
        "__len__": None,
        "__iter__": None,
        "__eq__": None,
        "told": "(self, probe, answer)",
        "can_be": "(self)",
        "houses_left": "(self)",
        "known": "(self)",
        "useful": "(self)",
    },
    ("live", "Search"): {
        "load": "(self, log)",
        "tell": "(self, probe, answered)",
        "undo": "(self, count=1)",
        "tell_all": "(self, *pairs)",
        "spent": "(self)",
        "left": "(self)",
        "advice": "(self)",
    },
}

STATIC_METHODS = {("costs", "Prices"): {"even": "()"}}

PROPERTIES = {("live", "Search"): ("log",)}

WIDTHS = Widths(10, 20, 30)
ROAD = Road(WIDTHS, 1)

# An object of each class with the attributes that are listed for it.
ATTRIBUTES = (
    (WIDTHS, ("numbers",)),
    (ROAD, ("widths", "losses", "in_a_row")),
    (Log(ROAD), ("road", "pairs")),
    (Prices(1, 2), ("answer", "silence")),
    (Costs(1, Prices(1, 2)), ("losses", "prices", "in_a_row")),
    (HouseLog(WIDTHS, 2), ("widths", "houses", "pairs")),
    (Search(ROAD, Prices(1, 2)), ("road", "prices", "depth")),
    (errors.BadNumber("cost", 7), ("what", "value")),
    (errors.BadOrder(7), ("place",)),
    (errors.BadPair(7), ("place",)),
    (errors.BadRow(7), ("value",)),
    (errors.BadPlan((7,), "lacks"), ("state", "reason")),
    (errors.BadPaper(7, "row"), ("place", "reason")),
    (errors.BadFoe((7,), 1, "lacks"), ("state", "number", "reason")),
    (errors.BadText(7), ("line",)),
    (errors.BadDeed(7), ("place",)),
    (errors.TooMany(7), ("limit",)),
)


def part(module, name):
    return getattr(importlib.import_module("widestparcels." + module), name)


class Interface(unittest.TestCase):
    def test_functions(self):
        for module, functions in FUNCTIONS.items():
            for name, signature in functions.items():
                with self.subTest(module=module, name=name):
                    function = part(module, name)
                    self.assertTrue(inspect.isfunction(function))
                    self.assertEqual(function.__module__, "widestparcels." + module)
                    self.assertEqual(str(inspect.signature(function)), signature)

    def test_classes(self):
        for module, classes in CLASSES.items():
            for name, signature in classes.items():
                with self.subTest(module=module, name=name):
                    kind = part(module, name)
                    self.assertTrue(inspect.isclass(kind))
                    self.assertEqual(kind.__module__, "widestparcels." + module)
                    if signature is not None:
                        self.assertEqual(str(inspect.signature(kind)), signature)

    def test_methods_stand_in_the_class_itself(self):
        for (module, name), methods in METHODS.items():
            for method, signature in methods.items():
                with self.subTest(name=name, method=method):
                    own = vars(part(module, name))
                    self.assertIn(method, own)
                    self.assertTrue(inspect.isfunction(own[method]))
                    if signature is not None:
                        self.assertEqual(str(inspect.signature(own[method])), signature)

    def test_static_methods_stand_in_the_class_itself(self):
        for (module, name), methods in STATIC_METHODS.items():
            for method, signature in methods.items():
                with self.subTest(name=name, method=method):
                    kind = part(module, name)
                    self.assertIsInstance(vars(kind)[method], staticmethod)
                    self.assertEqual(str(inspect.signature(getattr(kind, method))), signature)

    def test_properties_with_setters_stand_in_the_class_itself(self):
        for (module, name), properties in PROPERTIES.items():
            for attribute in properties:
                with self.subTest(name=name, attribute=attribute):
                    own = vars(part(module, name))[attribute]
                    self.assertIsInstance(own, property)
                    self.assertIsNotNone(own.fset)

    def test_attributes_are_set_when_the_object_is_created(self):
        for value, attributes in ATTRIBUTES:
            for attribute in attributes:
                with self.subTest(kind=type(value).__name__, attribute=attribute):
                    self.assertIn(attribute, vars(value))

    def test_each_module_can_be_imported_alone(self):
        for module in {*FUNCTIONS, *CLASSES}:
            with self.subTest(module=module):
                command = f"import widestparcels.{module}"
                subprocess.run([sys.executable, "-c", command], cwd=PROJECT, check=True)


if __name__ == "__main__":
    unittest.main()
