"""The interface: each name stands in its file, is defined there and takes what is listed."""

import importlib
import inspect
import unittest

FUNCTIONS = {
    "scopestore.fractions": {
        "fraction_of": ["top", "bottom"],
        "plus": ["a", "b"],
        "minus": ["a", "b"],
        "times": ["a", "b"],
        "over": ["a", "b"],
        "is_less": ["a", "b"],
    },
    "scopestore.sums": {
        "sum_of": ["pairs"],
        "sum_plus": ["one", "other"],
        "sum_times": ["one", "number"],
        "worth_at": ["one", "point"],
    },
    "scopestore.rows": {
        "row_of": ["one", "sort", "bound"],
        "keeps": ["row", "point"],
    },
    "scopestore.equals": {
        "solved_of": ["rows"],
        "stepped": ["rows", "steps"],
        "steps_of": ["rows"],
    },
    "scopestore.verdicts": {
        "verdict_of": ["rows"],
        "points_by_row": ["rows"],
    },
    "scopestore.spans": {
        "span_of": ["rows", "one"],
        "fixed_of": ["rows", "one"],
    },
    "scopestore.follows": {
        "follows_of": ["rows", "row"],
    },
    "scopestore.lookers": {
        "is_fraction": ["thing"],
        "is_sum": ["thing"],
        "is_point": ["thing"],
        "is_row": ["thing"],
        "is_shares": ["rows", "thing"],
        "solved_holds": ["rows", "thing"],
        "verdict_holds": ["rows", "thing"],
        "span_holds": ["rows", "one", "thing"],
        "fixed_holds": ["rows", "one", "thing"],
        "follows_holds": ["rows", "row", "thing"],
    },
    "scopestore.otherwise": {
        "row_times": ["row", "number"],
        "row_put": ["row", "unknown", "one", "number"],
        "row_renamed": ["row", "names"],
        "plain_row": ["row"],
        "same_row": ["one", "other"],
    },
    "scopestore.texts": {
        "fraction_text": ["number"],
        "sum_text": ["one"],
        "row_text": ["row"],
        "point_text": ["point"],
        "shares_text": ["shares"],
        "read_fraction": ["text"],
        "read_sum": ["text"],
        "read_row": ["text"],
    },
}
CLASSES = {
    "scopestore.errors": (
        "StoreError", "NoFraction", "NoRow", "NoName", "Stands", "Full", "NoLevel", "NoMark", "NothingDone",
        "NoPoint", "NoStep", "NoNumber", "NoNames", "NoText", "NoLine", "NoWord",
    ),
    "scopestore.store": ("Store",),
    "scopestore.desk": ("Desk",),
}
METHODS = {
    ("scopestore.store", "Store"): {
        "tell": ["name", "row"],
        "take": ["name"],
        "enter": [],
        "leave": [],
        "mark": ["word"],
        "back": ["word"],
        "undo": [],
        "again": [],
        "names": [],
        "row": ["name"],
        "rows": [],
        "level": [],
        "marks": [],
        "verdict": [],
        "span": ["one"],
        "fixed": ["one"],
        "follows": ["row"],
        "copy": [],
    },
    ("scopestore.desk", "Desk"): {
        "told": ["line"],
    },
}


class Interface(unittest.TestCase):
    def test_functions(self):
        for module_name, functions in FUNCTIONS.items():
            module = importlib.import_module(module_name)
            for name, arguments in functions.items():
                with self.subTest(module=module_name, name=name):
                    function = getattr(module, name)
                    self.assertTrue(inspect.isfunction(function))
                    self.assertEqual(function.__module__, module_name)
                    self.assertEqual(list(inspect.signature(function).parameters), arguments)

    def test_the_one_default(self):
        for module_name, functions in FUNCTIONS.items():
            module = importlib.import_module(module_name)
            for name in functions:
                parameters = inspect.signature(getattr(module, name)).parameters.values()
                defaults = {one.name: one.default for one in parameters if one.default is not one.empty}
                self.assertEqual(defaults, {"bottom": 1} if name == "fraction_of" else {})

    def test_classes(self):
        for module_name, names in CLASSES.items():
            module = importlib.import_module(module_name)
            for name in names:
                with self.subTest(module=module_name, name=name):
                    self.assertTrue(inspect.isclass(getattr(module, name)))
                    self.assertEqual(getattr(module, name).__module__, module_name)

    def test_methods(self):
        for (module_name, class_name), methods in METHODS.items():
            kind = getattr(importlib.import_module(module_name), class_name)
            kind()
            for name, arguments in methods.items():
                with self.subTest(kind=class_name, name=name):
                    self.assertIn(name, vars(kind))
                    self.assertTrue(inspect.isfunction(vars(kind)[name]))
                    self.assertEqual(list(inspect.signature(vars(kind)[name]).parameters)[1:], arguments)


if __name__ == "__main__":
    unittest.main()
