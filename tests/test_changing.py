import copy
import unittest
from itertools import permutations

from slitview.changing import mirrored, renamed
from slitview.errors import NoLetters, NoView
from slitview.fitting import texts

from models import BLURRED_VIEWS, Sullen, WIDTHS, all_texts, all_views, endless, no_views, odd_things, plain_view

NAMINGS = ["".join(letters) for letters in permutations("abc")]

NO_LETTERS = [
    "", "a", "ab", "ba", "abca", "abcc", "aabc", "aab", "aba", "abb", "aaa", "abd", "dbc", "ABC", "Abc", "ab ", "ab.", " abc",
    "abc ", "abc\n", "a,b,c", "123", "\u0430bc", ("a", "b", "c"), ["a", "b", "c"], ["c", "a", "b"], {"a": "b", "b": "c", "c": "a"},
    {"a", "b", "c"}, frozenset("abc"), b"abc", bytearray(b"abc"), iter("abc"), ("abc",), ["abc"], 0, 1, 3, True, None,
    [True, False, True], "abc" * 1000, Sullen(), endless(), ("a", "b", Sullen()),
]


def some_views():
    for width, most in ((1, 4), (2, 3), (3, 2), (4, 1)):
        for count in range(1, most + 1):
            yield from all_views(width, count)
    for width in WIDTHS:
        for text in ("abcabcabcabc", "aaabaaacaaab", "cbcbcbabcbcb", "aabbccaabbcc", "cccccccccccc"):
            yield plain_view(text[:8 + width], width)
        yield (width, ("a" * width,) * 4 + ("b" * width,) * 2 + ("c" * width,) * 3)


def changed(text, letters):
    return text.translate({ord("a"): letters[0], ord("b"): letters[1], ord("c"): letters[2]})


class Mirrored(unittest.TestCase):
    def test_ordinary_views(self):
        self.assertEqual(mirrored((1, ("a", "b"))), (1, ("a", "b")))
        self.assertEqual(mirrored((2, ("ab", "bc"))), (2, ("ba", "cb")))
        self.assertEqual(mirrored((3, ("abc",))), (3, ("cba",)))
        self.assertEqual(mirrored((4, ("aabc",))), (4, ("cbaa",)))

    def test_the_windows_in_rising_order_again(self):
        self.assertEqual(mirrored((2, ("ac", "ba"))), (2, ("ab", "ca")))
        self.assertEqual(mirrored((3, ("abc", "bca", "caa"))), (3, ("aac", "acb", "cba")))
        self.assertEqual(mirrored((2, ("ab", "ab", "ba"))), (2, ("ab", "ba", "ba")))

    def test_all_views(self):
        for view in some_views():
            told = mirrored(view)
            self.assertEqual(told, (view[0], tuple(sorted("".join(reversed(window)) for window in view[1]))))
            self.assertEqual(mirrored(told), view)
            self.assertEqual(texts(told), sorted(text[::-1] for text in texts(view)))

    def test_the_view_of_the_text_read_backward(self):
        for text in all_texts(6)[::5] + ["abcabcbaab", "ccabbabcc"]:
            for width in WIDTHS:
                if len(text) - width < 9:
                    self.assertEqual(mirrored(plain_view(text, width)), plain_view(text[::-1], width))

    def test_views_that_no_text_has(self):
        self.assertEqual(mirrored((2, ("ab", "ab", "ac"))), (2, ("ba", "ba", "ca")))
        self.assertEqual(mirrored((2, ("aa", "bb"))), (2, ("aa", "bb")))

    def test_kinds(self):
        told = mirrored((2, ("ab", "bc")))
        self.assertIs(type(told), tuple)
        self.assertIs(type(told[0]), int)
        self.assertIs(type(told[1]), tuple)


class Renamed(unittest.TestCase):
    def test_ordinary_views(self):
        self.assertEqual(renamed((2, ("ab", "bc")), "abc"), (2, ("ab", "bc")))
        self.assertEqual(renamed((2, ("ab", "bc")), "bca"), (2, ("bc", "ca")))
        self.assertEqual(renamed((2, ("ab", "bc")), "cab"), (2, ("ab", "ca")))
        self.assertEqual(renamed((1, ("a", "a", "b")), "cba"), (1, ("b", "c", "c")))
        self.assertEqual(renamed((4, ("aabc",)), "bac"), (4, ("bbac",)))

    def test_all_views(self):
        for view in some_views():
            for letters in NAMINGS:
                told = renamed(view, letters)
                self.assertEqual(told, (view[0], tuple(sorted(changed(window, letters) for window in view[1]))))

    def test_the_texts_have_the_other_letters(self):
        for view in list(some_views())[::7]:
            for letters in NAMINGS:
                self.assertEqual(texts(renamed(view, letters)), sorted(changed(text, letters) for text in texts(view)))

    def test_back_again(self):
        for view in list(some_views())[::11]:
            for letters in NAMINGS:
                back = "".join("abc"[letters.index(letter)] for letter in "abc")
                self.assertEqual(renamed(renamed(view, letters), back), view)

    def test_letters_that_are_none(self):
        for thing in NO_LETTERS + odd_things():
            for view in ((1, ("a",)), (2, ("aa", "bb")), (4, ("abca",) * 9)):
                with self.assertRaises(NoLetters):
                    renamed(view, thing)

    def test_kinds(self):
        told = renamed((2, ("ab", "bc")), "bca")
        self.assertIs(type(told), tuple)
        self.assertIs(type(told[0]), int)
        self.assertIs(type(told[1]), tuple)


class Refusals(unittest.TestCase):
    def test_what_is_no_view(self):
        for thing in no_views():
            with self.assertRaises(NoView):
                mirrored(thing)
            # NoView comes ahead of NoLetters.
            for letters in ("bca", "aab", None):
                with self.assertRaises(NoView):
                    renamed(thing, letters)

    def test_blurred_views(self):
        for thing in BLURRED_VIEWS:
            with self.assertRaises(NoView):
                mirrored(thing)
            with self.assertRaises(NoView):
                renamed(thing, "bca")

    def test_what_is_refused_is_not_changed(self):
        for thing in ([2, ["ba", "ab"]], {2: ["ab"]}, (2, ["ba", "ab"]), (2, [["ab"]]), ["c", "b", "a"]):
            kept = copy.deepcopy(thing)
            with self.assertRaises(NoView):
                mirrored(thing)
            with self.assertRaises(NoView):
                renamed(thing, "bca")
            with self.assertRaises(NoLetters):
                renamed((1, ("a",)), thing)
            self.assertEqual(thing, kept)


if __name__ == "__main__":
    unittest.main()
