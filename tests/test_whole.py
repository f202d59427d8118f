"""What holds over the whole program, asked of every function; and the examples of the README."""

import ast
import copy
import importlib
import pathlib
import re
import unittest

from slitview.errors import BadText, Never, NoLetters, NoText, NoView, NoWidth, NoWindow, SlitError
from slitview.seeking import Seeker
from slitview.slits import Slit
from slitview.writing import slit_text

from models import BLURRED_VIEWS, WIDTHS, all_views, no_views, odd_things, plain_view
from test_interface import ARGUMENTS

README = pathlib.Path(__file__).resolve().parent.parent / "README.md"

TEXTS = ("a", "ab", "aba", "aabaa", "cabbabcabb", "abcabcabcabc", "aaaabbbcc", "abab", "bab")
VIEWS = [plain_view(text[:8 + width], width) for text in TEXTS for width in WIDTHS if len(text) >= width]
VIEWS += [(2, ("aa", "bb")), (2, ("ab", "ab", "ab")), (4, ("aaaa",) * 8 + ("cccc",)), (1, ("a", "b", "c"))]
VIEWS += all_views(2, 2)[::5]

# For each argument's name what is handed in there.
VALUES = {
    "view": VIEWS, "text": TEXTS, "width": WIDTHS, "one": TEXTS[:6] + ("baa", "bab"), "other": TEXTS[:6] + ("baa", "bab"),
    "blurred": VIEWS + BLURRED_VIEWS[:-1], "thing": [("more", "a"), ("two", "a", "b"), ("apart", (0,)), ["apart", [0]], None],
    "views": [[VIEWS[0]], [plain_view("aba", 2), plain_view("aba", 1)], [plain_view("abc", 1)] * 4, [], [[]]],
    "letters": ["abc", "cab", "aab", ["a", "b", "c"]],
}
LINES = ["1: a", "2: .b ab", "2: ab ab ba", "2; ba ab", "4;", "2: ba ab", "", "4; aaaa bbbb"]

# What else is refused where a view is asked for is refused behind NoView.
ALONE_REFUSED = {"view": NoView, "blurred": NoView, "text": NoText, "one": NoText, "views": NoView}


def functions():
    """All functions but those that take a slit: (name, function, names of its arguments)."""
    for module, names in ARGUMENTS.items():
        for name, arguments in names.items():
            if arguments != ["slit"]:
                yield module + "." + name, getattr(importlib.import_module(module), name), arguments


def rows_of(name, arguments):
    """Some rows of arguments for a function."""
    if name in ("slitview.writing.read", "slitview.writing.slit_of"):
        return [[text] for text in LINES]
    rows = [[]]
    for argument in arguments:
        rows = [row + [value] for row in rows for value in VALUES[argument]]
    return rows[::max(1, len(rows) // 60)]


def told_by(asking, row):
    """What a function tells, or how it refuses; of a slit or a seeker what it holds."""
    try:
        told = asking(*row)
    except SlitError as refused:
        return ("refused", refused.__class__)
    if isinstance(told, Slit):
        return ["slit", slit_text(told), told.windows(), told.fitting()]
    if isinstance(told, Seeker):
        return ["seeker", told.left(), told.needed(), told.best(), told.heard()]
    return told


def spoil(thing):
    """Changes all lists that are told, as deep as they lie."""
    if isinstance(thing, (list, tuple)):
        for one in thing:
            spoil(one)
    if isinstance(thing, list):
        thing.reverse()
        thing.append("spoilt")
        thing[0] = None


class Whole(unittest.TestCase):
    def test_asked_again(self):
        for name, asking, arguments in functions():
            for row in rows_of(name, arguments):
                with self.subTest(name=name, row=row):
                    kept = copy.deepcopy(row)
                    told = told_by(asking, row)
                    wanted = copy.deepcopy(told)
                    self.assertEqual(row, kept)
                    spoil(told)
                    self.assertEqual(row, kept)
                    self.assertEqual(told_by(asking, row), wanted)
                    self.assertEqual(told_by(asking, kept), wanted)

    def test_something_is_told_by_each(self):
        for name, asking, arguments in functions():
            told = [told_by(asking, row) for row in rows_of(name, arguments)]
            with self.subTest(name):
                self.assertTrue([one for one in told if not (isinstance(one, tuple) and one[0] == "refused")])

    def test_in_another_order(self):
        # What was asked ahead changes nothing of what is told.
        cases = [(asking, row) for name, asking, arguments in functions() for row in rows_of(name, arguments)[::7]]
        told = [told_by(asking, row) for asking, row in cases]
        again = [told_by(asking, row) for asking, row in reversed(cases)]
        self.assertEqual(again[::-1], told)

    def test_lists_are_not_the_same_list(self):
        for name, asking, arguments in functions():
            for row in rows_of(name, arguments)[::9]:
                told, again = told_by(asking, row), told_by(asking, row)
                if isinstance(told, list):
                    self.assertIsNot(told, again)

    def test_what_was_handed_in_and_changed_later(self):
        views = [plain_view("aba", 2)]
        for name, asking, arguments in functions():
            if arguments == ["views"]:
                told = asking(views)
                views.append(plain_view("bab", 1))
                self.assertEqual(told, ["aba", "bab"])
                self.assertEqual(asking(views), ["bab"])


class Refused(unittest.TestCase):
    def test_things_of_any_kind_as_the_first_argument(self):
        # Whatever stands behind it, the first one is refused first.
        for name, asking, arguments in functions():
            refusal = ALONE_REFUSED.get(arguments[0])
            if name in ("slitview.writing.read", "slitview.writing.slit_of"):
                refusal = BadText
            if name == "slitview.slits.Slit":
                refusal = NoWidth
            for thing in odd_things():
                for other in ("a", None):
                    with self.subTest(name), self.assertRaises(refusal):
                        asking(thing, *[other] * (len(arguments) - 1))

    def test_true_and_false_are_no_whole_numbers(self):
        for name, asking, arguments in functions():
            rest = [None] * (len(arguments) - 1)
            if arguments[0] in ("view", "blurred"):
                for thing in ((True, ("a",)), (True, ("a", "b")), (False, ("",)), (1, (True,))):
                    with self.subTest(name), self.assertRaises(NoView):
                        asking(thing, *rest)
            if arguments[0] == "views":
                with self.assertRaises(NoView):
                    asking([(True, ("a",))])
            if arguments[-1] == "width":
                texts = ["ab"] * (len(arguments) - 1)
                for thing in (True, False):
                    with self.subTest(name), self.assertRaises(NoWidth):
                        asking(*texts, thing)

    def test_a_blurred_view_is_a_view_nowhere_else(self):
        for name, asking, arguments in functions():
            if arguments[0] == "view" and name != "slitview.writing.written":
                for thing in BLURRED_VIEWS:
                    with self.subTest(name), self.assertRaises(NoView):
                        asking(thing, *[None] * (len(arguments) - 1))
            if arguments == ["views"]:
                with self.assertRaises(NoView):
                    asking(BLURRED_VIEWS[:1])

    def test_what_is_no_view(self):
        for name, asking, arguments in functions():
            if arguments[0] == "view":
                for thing in no_views():
                    if not any(thing is one for one in BLURRED_VIEWS):
                        with self.subTest(name), self.assertRaises(NoView):
                            asking(thing, *["?"] * (len(arguments) - 1))

    def test_what_is_refused_changes_nothing(self):
        slit = Slit(2)
        slit.come("ba")
        seeker = Seeker((1, ("a", "b", "c")))
        seeker.hear(0, "b")
        kept = (slit.windows(), slit.told(), slit.fitting(), seeker.left(), seeker.heard())
        for thing in odd_things():
            with self.assertRaises(NoWindow):
                slit.come(thing)
            with self.assertRaises(NoLetters):
                seeker.hear(1, thing)
            with self.assertRaises(Never):
                seeker.hear(1, "b")
            for name, asking, arguments in functions():
                with self.assertRaises(SlitError):
                    asking(*[thing] * len(arguments))
        self.assertEqual((slit.windows(), slit.told(), slit.fitting(), seeker.left(), seeker.heard()), kept)


class Examples(unittest.TestCase):
    def test_the_readme(self):
        block = re.search("```python\n(.*?)```", README.read_text("utf-8"), re.S).group(1)
        names, told = {}, 0
        for line in block.splitlines():
            code, mark, wanted = line.partition("  # ") if "  # " in line else line.partition(" # ")
            if mark:
                self.assertEqual(eval(code, names), ast.literal_eval(wanted.strip()), line)
                told += 1
            else:
                exec(code, names)
        self.assertGreater(told, 40)


if __name__ == "__main__":
    unittest.main()
