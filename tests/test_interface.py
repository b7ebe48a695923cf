import importlib
import inspect
import unittest

ARGUMENTS = {
    "sales": {"is_sale": "seats fares turns", "total_of": "row", "scales_of": "turns last"},
    "shows": {"is_rule": "rule", "shows_of": "sold came of", "ends_of": "seats rule", "last_scale": "seats rule"},
    "worths": {"row_worths": "fares row scale behind", "worths_of": "fares turns last ends"},
    "rules": {"is_taken": "fare scale behind s", "least_fare": "scale behind s", "steps_fall": "ends"},
    "papers": {"first_wrong": "fares turns last ends table"},
    "ways": {"way_worths": "fares turns last ends way", "best_way": "fares turns last ends"},
    "foresight": {"weight_of": "turns askers", "known_best": "seats fares askers", "foresight_of": "seats fares turns"},
    "offices": {"Office": "seats fares turns rule"},
    "texts": {"read_words": "row", "read_number": "word", "read_name": "word"},
    "desk": {"Desk": ""},
}
METHODS = {
    ("offices", "Office"): {"asked": "asker", "turn": "", "left": "", "coins": "", "paper": "", "came": "number"},
    ("desk", "Desk"): {"say": "row"},
}


class InterfaceTest(unittest.TestCase):
    def test_names_and_arguments(self):
        for module, functions in ARGUMENTS.items():
            for name, arguments in functions.items():
                with self.subTest(module=module, name=name):
                    function = getattr(importlib.import_module(f"latefare.{module}"), name)
                    self.assertEqual(list(inspect.signature(function).parameters), arguments.split())

    def test_classes_and_their_methods(self):
        for (module, name), methods in METHODS.items():
            own = getattr(importlib.import_module(f"latefare.{module}"), name)
            self.assertTrue(inspect.isclass(own))
            for method, arguments in methods.items():
                with self.subTest(module=module, name=name, method=method):
                    asked = list(inspect.signature(getattr(own, method)).parameters)
                    self.assertEqual(asked, ["self"] + arguments.split())


if __name__ == "__main__":
    unittest.main()
