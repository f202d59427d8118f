import importlib
import inspect
import unittest

ARGUMENTS = {
    "slitview.views": {
        "view": ["text", "width"], "ring_view": ["text", "width"], "alike": ["one", "other", "width"],
        "turned": ["text"],
    },
    "slitview.fitting": {
        "texts": ["view"], "how_many": ["view"], "rings": ["view"], "first": ["view"], "twins": ["text", "width"],
        "least_width": ["text"],
    },
}


class Interface(unittest.TestCase):
    def test_names_and_arguments(self):
        for module, names in ARGUMENTS.items():
            for name, arguments in names.items():
                with self.subTest(module=module, name=name):
                    found = getattr(importlib.import_module(module), name)
                    self.assertEqual(list(inspect.signature(found).parameters), arguments)


if __name__ == "__main__":
    unittest.main()
