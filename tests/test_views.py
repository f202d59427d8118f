import copy
import unittest

from slitview.errors import NoText, NoView, NoWidth
from slitview.views import alike, ring_view, turned, view

from models import WIDTHS, all_texts, no_texts, no_widths, plain_ring_view, plain_turns, plain_view


class View(unittest.TestCase):
    def test_ordinary_texts_at_each_width(self):
        self.assertEqual(view("cabca", 1), (1, ("a", "a", "b", "c", "c")))
        self.assertEqual(view("cabca", 2), (2, ("ab", "bc", "ca", "ca")))
        self.assertEqual(view("cabca", 3), (3, ("abc", "bca", "cab")))
        self.assertEqual(view("cabca", 4), (4, ("abca", "cabc")))

    def test_all_short_texts(self):
        for length in range(1, 7):
            for text in all_texts(length):
                for width in WIDTHS:
                    if width <= length:
                        self.assertEqual(view(text, width), plain_view(text, width))

    def test_one_letter(self):
        self.assertEqual(view("b", 1), (1, ("b",)))
        for width in (2, 3, 4):
            with self.subTest(width), self.assertRaises(NoView):
                view("b", width)

    def test_twelve_letters(self):
        windows = ("aabc", "abca", "abca", "abcb", "baab", "bcab", "bcba", "cabc", "cbaa")
        self.assertEqual(view("abcabcbaabca", 4), (4, windows))
        self.assertEqual(view("cccccccccccc", 4), (4, ("cccc",) * 9))
        for width in (1, 2, 3):
            with self.subTest(width), self.assertRaises(NoView):
                view("abcabcbaabca", width)

    def test_just_one_window(self):
        for text in ("c", "cb", "cba", "cbac"):
            self.assertEqual(view(text, len(text)), (len(text), (text,)))

    def test_just_nine_windows_and_ten(self):
        for width in WIDTHS:
            nine = ("abc" * 4)[:8 + width]
            self.assertEqual(view(nine, width), plain_view(nine, width))
            self.assertEqual(len(view(nine, width)[1]), 9)
            if width < 4:
                with self.subTest(width), self.assertRaises(NoView):
                    view(nine + "a", width)

    def test_no_window(self):
        for text, width in (("a", 2), ("ab", 3), ("abc", 4), ("a", 4)):
            with self.subTest(text), self.assertRaises(NoView):
                view(text, width)

    def test_kinds(self):
        seen = view("ba", 1)
        self.assertIs(type(seen), tuple)
        self.assertIs(type(seen[0]), int)
        self.assertIs(type(seen[1]), tuple)

    def test_equal_texts_have_equal_views(self):
        self.assertEqual(view("abca", 2), view("".join(["ab", "ca"]), 2))


class RingView(unittest.TestCase):
    def test_ordinary_rings_at_each_width(self):
        self.assertEqual(ring_view("aabc", 1), (1, ("a", "a", "b", "c")))
        self.assertEqual(ring_view("aabc", 2), (2, ("aa", "ab", "bc", "ca")))
        self.assertEqual(ring_view("aabc", 3), (3, ("aab", "abc", "bca", "caa")))
        self.assertEqual(ring_view("aabc", 4), (4, ("aabc", "abca", "bcaa", "caab")))

    def test_rings_shorter_than_the_width(self):
        self.assertEqual(ring_view("b", 1), (1, ("b",)))
        self.assertEqual(ring_view("b", 4), (4, ("bbbb",)))
        self.assertEqual(ring_view("ba", 3), (3, ("aba", "bab")))
        self.assertEqual(ring_view("ba", 4), (4, ("abab", "baba")))
        self.assertEqual(ring_view("bbb", 4), (4, ("bbbb", "bbbb", "bbbb")))
        self.assertEqual(ring_view("abc", 4), (4, ("abca", "bcab", "cabc")))

    def test_all_short_rings_and_their_turns(self):
        for length in range(1, 6):
            for text in all_texts(length):
                for width in WIDTHS:
                    for turn in plain_turns(text):
                        self.assertEqual(ring_view(turn, width), plain_ring_view(text, width))

    def test_nine_letters_and_more(self):
        for width in WIDTHS:
            self.assertEqual(ring_view("abcabcabb", width), plain_ring_view("abcabcabb", width))
            self.assertEqual(len(ring_view("abcabcabb", width)[1]), 9)
            for length in (10, 11, 12):
                with self.subTest(width), self.assertRaises(NoView):
                    ring_view("a" * length, width)


class Refusals(unittest.TestCase):
    def test_what_is_no_text(self):
        for seeing in (view, ring_view):
            for thing in no_texts():
                for width in (1, 4, 0, None, True):
                    with self.assertRaises(NoText):
                        seeing(thing, width)

    def test_what_is_no_width(self):
        for seeing in (view, ring_view):
            for thing in no_widths():
                # The longest text and the shortest one would have no view either: the width is refused first.
                for text in ("abc", "a", "abcabcabcabc"):
                    with self.assertRaises(NoWidth):
                        seeing(text, thing)

    def test_edges_of_length(self):
        self.assertEqual(len(view("a" * 12, 4)[1]), 9)
        for seeing in (view, ring_view):
            for text in ("", "a" * 13):
                with self.assertRaises(NoText):
                    seeing(text, 4)

    def test_what_is_refused_is_not_changed(self):
        for thing in (["a", "b"], {"a": 1}, {"a"}, [["a"]], bytearray(b"ab")):
            kept = copy.deepcopy(thing)
            for asking in (view, ring_view):
                with self.assertRaises(NoText):
                    asking(thing, 1)
                with self.assertRaises(NoWidth):
                    asking("abc", thing)
            self.assertEqual(thing, kept)
        self.assertEqual(view("abc", 2), (2, ("ab", "bc")))


class Alike(unittest.TestCase):
    def test_ordinary_texts_at_each_width(self):
        self.assertIs(alike("abc", "cab", 1), True)
        self.assertIs(alike("abc", "abb", 1), False)
        self.assertIs(alike("aba", "bab", 2), True)
        self.assertIs(alike("abc", "cab", 2), False)
        self.assertIs(alike("abaa", "aaba", 2), True)
        self.assertIs(alike("abaa", "aaba", 3), False)
        self.assertIs(alike("aabaa", "abaab", 3), True)
        self.assertIs(alike("aaabaaa", "baaabaa", 4), True)
        self.assertIs(alike("aaabaaa", "aaabaab", 4), False)

    def test_each_window_as_often(self):
        self.assertIs(alike("aab", "abb", 1), False)
        self.assertIs(alike("aaab", "aab", 2), False)
        self.assertIs(alike("abab", "ab", 2), False)

    def test_all_short_texts(self):
        for width in WIDTHS:
            for one in all_texts(4):
                for other in all_texts(4):
                    self.assertIs(alike(one, other, width), plain_view(one, width) == plain_view(other, width))

    def test_one_and_twelve_letters(self):
        self.assertIs(alike("a", "a", 1), True)
        self.assertIs(alike("a", "b", 1), False)
        self.assertIs(alike("aaabaaabaaab", "aaabaaabaaab", 4), True)
        self.assertIs(alike("aaabaaabaaab", "aaabaaabaaac", 4), False)

    def test_refusals_of_either_text(self):
        for thing in no_texts():
            with self.assertRaises(NoText):
                alike(thing, "abc", 2)
            with self.assertRaises(NoText):
                alike("abc", thing, 2)
        for thing in no_widths():
            with self.assertRaises(NoWidth):
                alike("abc", "cab", thing)
        for one, other in (("a", "ab"), ("ab", "a"), ("a" * 11, "ab"), ("ab", "a" * 11)):
            with self.assertRaises(NoView):
                alike(one, other, 2)

    def test_the_first_texts_refusals_come_first(self):
        with self.assertRaises(NoText):
            alike("", "abc", 0)
        with self.assertRaises(NoWidth):
            alike("abc", "", 0)
        with self.assertRaises(NoWidth):
            alike("a", None, True)
        with self.assertRaises(NoView):
            alike("a", "", 2)
        with self.assertRaises(NoView):
            alike("a" * 10, None, 1)
        with self.assertRaises(NoText):
            alike("ab", "", 2)
        with self.assertRaises(NoText):
            alike(None, "a", 2)


class Turned(unittest.TestCase):
    def test_ordinary_rings(self):
        self.assertEqual(turned("cab"), "abc")
        self.assertEqual(turned("abc"), "abc")
        self.assertEqual(turned("cba"), "acb")
        self.assertEqual(turned("baba"), "abab")
        self.assertEqual(turned("abaa"), "aaab")
        self.assertEqual(turned("cabcaab"), "aabcabc")

    def test_one_and_twelve_letters(self):
        self.assertEqual(turned("c"), "c")
        self.assertEqual(turned("cbacbacbacba"), "acbacbacbacb")
        self.assertEqual(turned("baaaaaaaaaaa"), "aaaaaaaaaaab")
        self.assertEqual(turned("abcabcabcabb"), "abbabcabcabc")

    def test_all_short_rings(self):
        for length in range(1, 7):
            for text in all_texts(length):
                self.assertEqual(turned(text), min(plain_turns(text)))

    def test_what_is_no_text(self):
        for thing in no_texts():
            with self.assertRaises(NoText):
                turned(thing)


if __name__ == "__main__":
    unittest.main()
