import importlib
import inspect
import unittest

ARGUMENTS = {
    "slitview.views": {
        "view": ["text", "width"], "ring_view": ["text", "width"], "alike": ["one", "other", "width"],
        "turned": ["text"],
    },
    "slitview.fitting": {
        "texts": ["view"], "how_many": ["view"], "rings": ["view"], "first": ["view"], "twins": ["text", "width"],
        "least_width": ["text"],
    },
    "slitview.bars": {"balance": ["view"], "bar": ["view"], "is_bar": ["view", "thing"]},
    "slitview.slits": {"Slit": ["width"]},
    "slitview.blurring": {
        "clears": ["blurred", "view"], "cleared": ["blurred"], "through": ["blurred"], "seen": ["blurred"],
    },
    "slitview.shortest": {"shortest": ["view"], "lacking": ["view"], "within": ["text", "view"]},
    "slitview.exchanging": {
        "exchanged": ["text", "width"], "farthest": ["text", "width"], "road": ["one", "other", "width"],
        "steps": ["one", "other", "width"],
    },
    "slitview.widths": {"narrower": ["view"], "wider": ["view"], "by_all": ["views"]},
    "slitview.together": {"pairs": ["view"], "fewest_texts": ["view"], "bundle": ["view"], "sure": ["view"]},
    "slitview.seeking": {"Seeker": ["view"]},
    "slitview.changing": {"mirrored": ["view"], "renamed": ["view", "letters"]},
    "slitview.writing": {"written": ["view"], "read": ["text"], "slit_text": ["slit"], "slit_of": ["text"]},
}

METHODS = {
    ("slitview.slits", "Slit"): {"windows": [], "come": ["window"], "told": [], "fitting": [], "undo": []},
    ("slitview.seeking", "Seeker"): {
        "left": [], "needed": [], "best": [], "hear": ["place", "letter"], "heard": [], "undo": [],
    },
}


class Interface(unittest.TestCase):
    def test_names_and_arguments(self):
        for module, names in ARGUMENTS.items():
            for name, arguments in names.items():
                with self.subTest(module=module, name=name):
                    found = getattr(importlib.import_module(module), name)
                    self.assertEqual(list(inspect.signature(found).parameters), arguments)

    def test_methods_and_arguments(self):
        for (module, name), methods in METHODS.items():
            for method, arguments in methods.items():
                with self.subTest(module=module, name=name, method=method):
                    found = getattr(getattr(importlib.import_module(module), name), method)
                    self.assertEqual(list(inspect.signature(found).parameters), ["self"] + arguments)


if __name__ == "__main__":
    unittest.main()
