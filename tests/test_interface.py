"""The interface: where its functions and classes stand, and what they take."""

import importlib
import inspect
import unittest

FUNCTIONS = {
    "words": {
        "is_integer": "(value)",
        "check_number": "(what, value, low, high)",
        "read_number": "(text)",
    },
    "rows": {
        "is_row": "(value)",
        "check_row": "(row)",
        "answered_row": "(row, below, *, in_a_row=False)",
        "silent_row": "(row, below)",
        "sits_in": "(first, second)",
    },
    "best": {
        "least_cost": "(log, prices)",
        "best_probes": "(log, prices)",
        "extras": "(log, prices)",
        "worst_answer": "(log, prices, probe)",
    },
    "plans": {"check_plan": "(log, prices, plan)", "told_plan": "(log, prices)"},
    "courses": {
        "count_courses": "(log, plan)",
        "courses": "(log, plan)",
        "dearest": "(log, prices, plan)",
        "cheapest": "(log, prices, plan)",
        "play": "(log, plan, ask)",
    },
    "papers": {"check_at_least": "(log, prices, v, pairs)", "paper_at_least": "(log, prices)"},
    "foe": {
        "check_foe": "(log, prices, foe)",
        "told_foe": "(log, prices)",
        "play_foe": "(log, prices, plan, foe)",
    },
    "apart": {
        "apart": "(v, prices)",
        "most_apart": "(road, prices, v)",
        "to_strike": "(road, prices, v)",
    },
    "houses": {"least_probes": "(houselog)", "told_probe": "(houselog)"},
    "stand": {
        "through": "(widths, stand, probe)",
        "true_width": "(widths, stand)",
        "find": "(widths, houses, stand)",
    },
    "houseplans": {
        "check_house_plan": "(houselog, plan)",
        "told_house_plan": "(houselog)",
        "check_house_paper": "(houselog, v, pairs)",
        "house_paper": "(houselog)",
    },
}

CLASSES = {
    "errors": {
        "ParcelError": None,
        "BadNumber": "(what, value)",
        "BadOrder": "(place)",
        "BadPair": "(place)",
        "BadRow": "(value)",
        "BadPlan": "(state, reason)",
        "BadPaper": "(place, reason)",
        "BadFoe": "(state, number, reason)",
        "BadText": "(line)",
        "BadDeed": "(place)",
        "TooMany": "(limit)",
        "Impossible": None,
        "Unlike": None,
        "NothingToUndo": None,
    },
    "widths": {"Widths": "(*widths)"},
    "road": {"Road": "(widths, losses, *, in_a_row=False)"},
    "log": {"Log": "(road, *pairs)"},
    "costs": {"Prices": "(answer, silence)", "Costs": "(losses, prices, *, in_a_row=False)"},
    "houses": {"HouseLog": "(widths, houses, *pairs)"},
}

METHODS = {
    ("widths", "Widths"): {
        "__getitem__": None,
        "__contains__": None,
        "__len__": None,
        "__iter__": None,
        "__eq__": None,
        "__le__": None,
        "__or__": None,
        "__and__": None,
        "__sub__": None,
        "below": "(self, x)",
    },
    ("road", "Road"): {"__eq__": None, "probes": "(self)"},
    ("log", "Log"): {
        "__getitem__": None,
        "__len__": None,
        "__iter__": None,
        "__eq__": None,
        "__le__": None,
        "__add__": None,
        "told": "(self, probe, answered)",
        "need": "(self, width)",
        "needs": "(self)",
        "can_be": "(self)",
        "is_impossible": "(self)",
        "known": "(self)",
        "row": "(self)",
        "useful": "(self)",
        "surely": "(self, probe)",
    },
    ("costs", "Prices"): {"__eq__": None, "__mul__": None, "__rmul__": None},
    ("costs", "Costs"): {"__call__": "(self, row)", "best": "(self, row)", "extra": "(self, row, below)"},
    ("houses", "HouseLog"): {
        "__getitem__": None,
        "__len__": None,
        "__iter__": None,
        "__eq__": None,
        "told": "(self, probe, answer)",
        "can_be": "(self)",
        "houses_left": "(self)",
        "known": "(self)",
        "useful": "(self)",
    },
}

STATIC_METHODS = {("costs", "Prices"): {"even": "()"}}


def part(module, name):
    return getattr(importlib.import_module("widestparcels." + module), name)


class Interface(unittest.TestCase):
    def test_functions(self):
        for module, functions in FUNCTIONS.items():
            for name, signature in functions.items():
                with self.subTest(module=module, name=name):
                    function = part(module, name)
                    self.assertTrue(inspect.isfunction(function))
                    self.assertEqual(function.__module__, "widestparcels." + module)
                    self.assertEqual(str(inspect.signature(function)), signature)

    def test_classes(self):
        for module, classes in CLASSES.items():
            for name, signature in classes.items():
                with self.subTest(module=module, name=name):
                    kind = part(module, name)
                    self.assertTrue(inspect.isclass(kind))
                    self.assertEqual(kind.__module__, "widestparcels." + module)
                    if signature is not None:
                        self.assertEqual(str(inspect.signature(kind)), signature)

    def test_methods_stand_in_the_class_itself(self):
        for (module, name), methods in METHODS.items():
            for method, signature in methods.items():
                with self.subTest(name=name, method=method):
                    own = vars(part(module, name))
                    self.assertIn(method, own)
                    self.assertTrue(inspect.isfunction(own[method]))
                    if signature is not None:
                        self.assertEqual(str(inspect.signature(own[method])), signature)

    def test_static_methods_stand_in_the_class_itself(self):
        for (module, name), methods in STATIC_METHODS.items():
            for method, signature in methods.items():
                with self.subTest(name=name, method=method):
                    kind = part(module, name)
                    self.assertIsInstance(vars(kind)[method], staticmethod)
                    self.assertEqual(str(inspect.signature(getattr(kind, method))), signature)


if __name__ == "__main__":
    unittest.main()
