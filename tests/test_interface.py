import importlib
import inspect
import unittest

ARGUMENTS = {
    "sales": {"is_sale": "seats fares turns", "total_of": "row", "scales_of": "turns last"},
    "shows": {"is_rule": "rule", "shows_of": "sold came of", "ends_of": "seats rule", "last_scale": "seats rule"},
    "worths": {"row_worths": "fares row scale behind", "worths_of": "fares turns last ends"},
    "rules": {"is_taken": "fare scale behind s", "least_fare": "scale behind s", "steps_fall": "ends"},
    "papers": {"first_wrong": "fares turns last ends table"},
    "ways": {"way_worths": "fares turns last ends way", "best_way": "fares turns last ends"},
}


class InterfaceTest(unittest.TestCase):
    def test_names_and_arguments(self):
        for module, functions in ARGUMENTS.items():
            for name, arguments in functions.items():
                with self.subTest(module=module, name=name):
                    function = getattr(importlib.import_module(f"latefare.{module}"), name)
                    self.assertEqual(list(inspect.signature(function).parameters), arguments.split())


if __name__ == "__main__":
    unittest.main()
