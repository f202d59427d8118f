import copy
import unittest
from itertools import product

from slitview.errors import Full, NoWidth, NoWindow, Nothing
from slitview.slits import Slit

from models import WIDTHS, all_texts, no_widths, no_windows, odd_things, plain_some_text, plain_view, texts_by_view


def slit_with(width, windows):
    slit = Slit(width)
    for window in windows:
        slit.come(window)
    return slit


def plain_fitting(width, windows):
    return [window for window in all_texts(width) if plain_some_text(list(windows) + [window], width)]


def shuffled(windows):
    """The same windows in another order."""
    return windows[1::2] + windows[::-2][::-1]


def told_of(slit):
    return slit.windows(), slit.told(), slit.fitting()


NINE = {
    1: (list("aaaaaaaaa"), list("abcabcabc"), list("cbaaaaaaa")),
    2: (["aa"] * 9, ["ab", "ba"] * 4 + ["ab"], ["ab", "bc", "ca"] * 3, ["ab"] * 9, ["ca", "ab"] * 4 + ["bb"]),
    3: (["aaa"] * 9, ["abc", "bca", "cab"] * 3, ["aab", "aba", "baa"] * 3, ["aba", "bab"] * 4 + ["bac"], ["abc"] * 9),
    4: (["aaaa"] * 9, ["abca", "bcab", "cabc"] * 3, ["aaab", "aaba", "abaa"] * 3, ["abcc"] * 9),
}


class Making(unittest.TestCase):
    def test_each_width(self):
        for width in WIDTHS:
            slit = Slit(width)
            self.assertEqual(slit.windows(), [])
            self.assertIsNone(slit.told())
            self.assertEqual(slit.fitting(), all_texts(width))

    def test_what_is_no_width(self):
        for thing in no_widths():
            with self.assertRaises(NoWidth):
                Slit(thing)

    def test_what_is_refused_is_not_changed(self):
        for thing in ([2], {2: [2]}, (2, [2])):
            kept = copy.deepcopy(thing)
            with self.assertRaises(NoWidth):
                Slit(thing)
            self.assertEqual(thing, kept)


class Come(unittest.TestCase):
    def test_how_many_texts(self):
        slit = Slit(2)
        self.assertEqual(slit.come("ba"), 1)
        self.assertEqual(slit.come("ab"), 2)
        self.assertEqual(slit.come("aa"), 3)
        self.assertEqual(slit.come("cc"), 0)
        self.assertEqual(slit.windows(), ["ba", "ab", "aa", "cc"])

    def test_kept_also_if_no_text_has_them(self):
        slit = Slit(2)
        self.assertEqual(slit.come("ab"), 1)
        self.assertEqual(slit.come("ca"), 1)
        self.assertEqual(slit.come("aa"), 1)
        self.assertEqual(slit.come("cb"), 0)
        self.assertEqual(slit.windows(), ["ab", "ca", "aa", "cb"])
        # What no text has, one may have again behind more windows.
        self.assertEqual(slit.come("bc"), 2)
        slit = Slit(4)
        self.assertEqual([slit.come(window) for window in ("abca", "caba", "bcab")], [1, 0, 1])
        self.assertEqual(slit.told(), "abcaba")

    def test_in_any_order(self):
        for windows in (["aa", "ab", "ba"], ["ab", "aa", "ba"], ["ba", "ab", "aa"], ["ba", "aa", "ab"]):
            slit = slit_with(2, windows[:2])
            self.assertEqual(slit.come(windows[2]), 3)
            self.assertEqual(slit.windows(), windows)

    def test_all_short_rows_of_windows(self):
        for width, most in ((1, 5), (2, 3), (3, 2), (4, 1)):
            for count in range(1, most + 1):
                having = texts_by_view(count + width - 1, width)
                for windows in product(all_texts(width), repeat=count):
                    slit = slit_with(width, windows[:-1])
                    found = having.get((width, tuple(sorted(windows))), [])
                    self.assertEqual(slit.come(windows[-1]), len(found))
                    self.assertEqual(slit.windows(), list(windows))
                    self.assertEqual(slit.told(), found[0] if len(found) == 1 else None)

    def test_nine_windows(self):
        slit = Slit(1)
        self.assertEqual([slit.come(letter) for letter in "abcabcabc"], [1, 2, 6, 12, 30, 90, 210, 560, 1680])
        slit = Slit(4)
        self.assertEqual([slit.come("cccc") for step in range(9)], [1] * 9)
        self.assertEqual(slit.told(), "c" * 12)
        slit = Slit(4)
        windows = plain_view("abcabcbaabca", 4)[1]
        counts = [slit.come(window) for window in shuffled(windows)]
        self.assertEqual(len(slit.windows()), 9)
        self.assertGreaterEqual(counts[-1], 1)

    def test_the_tenth_window(self):
        for width in WIDTHS:
            for windows in NINE[width]:
                slit = slit_with(width, windows)
                kept = told_of(slit)
                for window in all_texts(width)[::4]:
                    with self.assertRaises(Full):
                        slit.come(window)
                self.assertEqual(told_of(slit), kept)
                self.assertEqual(slit.undo(), windows[-1])
                slit.come(windows[-1])
                self.assertEqual(told_of(slit), kept)

    def test_what_is_no_window(self):
        for width in WIDTHS:
            for windows in ([], ["c" * width], NINE[width][1]):
                slit = slit_with(width, windows)
                kept = told_of(slit)
                # No window is refused ahead of a full slit.
                for thing in no_windows(width):
                    with self.assertRaises(NoWindow):
                        slit.come(thing)
                    self.assertEqual(slit.windows(), windows)
                self.assertEqual(told_of(slit), kept)

    def test_windows_of_other_widths(self):
        for width in WIDTHS:
            for other in range(14):
                if other != width:
                    with self.assertRaises(NoWindow):
                        Slit(width).come("a" * other)

    def test_what_is_refused_is_not_changed(self):
        for thing in (["a"], {"a": ["b"]}, [["ab"]], bytearray(b"a")):
            kept = copy.deepcopy(thing)
            with self.assertRaises(NoWindow):
                Slit(1).come(thing)
            self.assertEqual(thing, kept)


class Told(unittest.TestCase):
    def test_with_no_window(self):
        for width in WIDTHS:
            self.assertIsNone(Slit(width).told())

    def test_with_one_text(self):
        self.assertEqual(slit_with(1, ["b"]).told(), "b")
        self.assertEqual(slit_with(1, ["b", "b"]).told(), "bb")
        self.assertEqual(slit_with(2, ["bc", "ab"]).told(), "abc")
        self.assertEqual(slit_with(3, ["cab", "abc", "bca", "cab"]).told(), "cabcab")
        self.assertEqual(slit_with(4, ["abca"]).told(), "abca")

    def test_with_several_and_with_none(self):
        self.assertIsNone(slit_with(1, ["b", "a"]).told())
        self.assertIsNone(slit_with(2, ["ba", "ab"]).told())
        self.assertIsNone(slit_with(2, ["ab", "ab"]).told())
        self.assertIsNone(slit_with(4, ["aaaa", "bbbb"]).told())

    def test_behind_undo(self):
        slit = slit_with(2, ["ab", "bb", "ca"])
        self.assertEqual(slit.told(), "cabb")
        slit.come("cc")
        self.assertEqual(slit.told(), "ccabb")
        slit.come("ab")
        self.assertIsNone(slit.told())
        slit.undo()
        slit.undo()
        slit.undo()
        self.assertEqual(slit.told(), "abb")
        slit.undo()
        slit.undo()
        self.assertIsNone(slit.told())


class Fitting(unittest.TestCase):
    def test_ordinary_slits(self):
        self.assertEqual(slit_with(1, ["b"]).fitting(), ["a", "b", "c"])
        self.assertEqual(slit_with(2, ["ab"]).fitting(), ["aa", "ba", "bb", "bc", "ca"])
        self.assertEqual(slit_with(2, ["ab", "ab"]).fitting(), ["ba"])
        self.assertEqual(slit_with(2, ["ab", "ca", "cb"]).fitting(), ["bc"])
        self.assertEqual(slit_with(2, ["aa", "bb"]).fitting(), ["ab", "ba"])
        self.assertEqual(slit_with(4, ["abca", "caba"]).fitting(), ["bcab"])

    def test_none(self):
        self.assertEqual(slit_with(2, ["ab", "ab", "ab"]).fitting(), [])
        self.assertEqual(slit_with(4, ["aaaa", "bbbb"]).fitting(), [])

    def test_all_short_rows_of_windows(self):
        for width, most in ((1, 5), (2, 3), (3, 2), (4, 1)):
            for count in range(most + 1):
                having = texts_by_view(count + width, width)
                for windows in product(all_texts(width), repeat=count):
                    wanted = [one for one in all_texts(width) if (width, tuple(sorted(windows + (one,)))) in having]
                    self.assertEqual(slit_with(width, windows).fitting(), wanted)

    def test_windows_of_long_texts(self):
        for width in WIDTHS:
            for text in ("abcabcabcabc", "aaabaaacaaab", "cbcbcbabcbcb", "aabbccaabbcc", "cccccccccccc"):
                windows = shuffled(plain_view(text, width)[1])[:9]
                for count in range(len(windows) + 1):
                    wanted = plain_fitting(width, windows[:count])
                    self.assertEqual(slit_with(width, windows[:count]).fitting(), wanted)

    def test_nine_windows(self):
        for width in WIDTHS:
            for windows in NINE[width]:
                self.assertEqual(slit_with(width, windows).fitting(), plain_fitting(width, windows))

    def test_nine_windows_and_texts_of_up_to_twelve_letters(self):
        # A tenth window would make a text of 10, 11, 12 letters; a text of 13 letters is none.
        self.assertEqual(slit_with(1, list("abcabcabc")).fitting(), ["a", "b", "c"])
        self.assertEqual(slit_with(2, ["ab", "ba"] * 4 + ["ab"]).fitting(), ["aa", "ba", "bb", "bc", "ca"])
        self.assertEqual(slit_with(3, ["aaa"] * 9).fitting(), ["aaa", "aab", "aac", "baa", "caa"])
        self.assertEqual(slit_with(3, ["abc"] * 9).fitting(), [])
        for windows in NINE[4]:
            self.assertEqual(slit_with(4, windows).fitting(), [])
            self.assertEqual(slit_with(4, windows[:8]).fitting(), plain_fitting(4, windows[:8]))
        self.assertEqual(slit_with(4, ["aaaa"] * 8).fitting(), ["aaaa", "aaab", "aaac", "baaa", "caaa"])

    def test_nine_windows_against_all_texts(self):
        having = texts_by_view(10, 1)
        for windows in ("aaaaaaaaa", "abcabcabc", "cbaaaaaaa"):
            wanted = [one for one in "abc" if (1, tuple(sorted(windows + one))) in having]
            self.assertEqual(slit_with(1, windows).fitting(), wanted)

    def test_asking_changes_nothing(self):
        slit = slit_with(2, ["ba", "ab"])
        kept = told_of(slit)
        self.assertEqual(told_of(slit), kept)
        self.assertEqual(slit.come("aa"), 3)

    def test_fitting_is_what_come_tells(self):
        for windows in (["ab"], ["ab", "ab"], ["aa", "bb"], ["ca", "ab", "ba", "ab"]):
            slit = slit_with(2, windows)
            fitting = slit.fitting()
            for window in all_texts(2):
                self.assertEqual(slit.come(window) > 0, window in fitting)
                self.assertEqual(slit.undo(), window)


class Undo(unittest.TestCase):
    def test_to_the_end(self):
        for width in WIDTHS:
            for windows in NINE[width]:
                slit = slit_with(width, windows)
                for count in range(8, -1, -1):
                    self.assertEqual(slit.undo(), windows[count])
                    self.assertEqual(slit.windows(), windows[:count])
                for again in range(2):
                    with self.assertRaises(Nothing):
                        slit.undo()
                    self.assertEqual(slit.windows(), [])
                self.assertEqual(slit.come("b" * width), 1)
                self.assertEqual(slit.told(), "b" * width)

    def test_a_new_slit(self):
        for width in WIDTHS:
            slit = Slit(width)
            with self.assertRaises(Nothing):
                slit.undo()
            self.assertEqual(slit.fitting(), all_texts(width))

    def test_in_the_order_of_coming(self):
        slit = slit_with(2, ["ca", "ab", "ca"])
        self.assertEqual(slit.undo(), "ca")
        slit.come("bb")
        self.assertEqual([slit.undo(), slit.undo(), slit.undo()], ["bb", "ab", "ca"])

    def test_refused_windows_are_not_taken_back(self):
        slit = slit_with(2, ["ab"])
        for thing in odd_things():
            with self.assertRaises(NoWindow):
                slit.come(thing)
        self.assertEqual(slit.undo(), "ab")
        with self.assertRaises(Nothing):
            slit.undo()


class Apart(unittest.TestCase):
    def test_two_slits_do_not_change_each_other(self):
        one = slit_with(2, ["ab"])
        other = slit_with(2, ["ba"])
        kept = told_of(other)
        one.come("bb")
        self.assertEqual(told_of(other), kept)
        other.undo()
        self.assertEqual(one.windows(), ["ab", "bb"])
        self.assertEqual(one.told(), "abb")
        third = Slit(3)
        self.assertEqual(third.windows(), [])
        self.assertEqual(one.fitting(), plain_fitting(2, ["ab", "bb"]))

    def test_changed_lists_change_nothing(self):
        slit = slit_with(2, ["ba", "ab"])
        kept = copy.deepcopy(told_of(slit))
        told = slit.windows()
        told.append("cc")
        told[0] = "cc"
        told.reverse()
        slit.windows().clear()
        fitting = slit.fitting()
        fitting.clear()
        self.assertEqual(told_of(slit), kept)
        self.assertEqual(slit.come("aa"), 3)
        self.assertEqual(slit.undo(), "aa")
        self.assertEqual(slit.undo(), "ab")

    def test_a_told_list_does_not_follow_the_slit(self):
        slit = slit_with(2, ["ba"])
        told = slit.windows()
        slit.come("ab")
        self.assertEqual(told, ["ba"])

    def test_the_same_calls_give_the_same_answers(self):
        rows = []
        for again in range(2):
            slit = Slit(3)
            row = [slit.come(window) for window in ("aba", "bab", "abc", "cab")]
            rows.append((row, slit.undo(), slit.come("bca"), told_of(slit)))
        self.assertEqual(rows[0], rows[1])

    def test_kinds(self):
        slit = Slit(1)
        self.assertIs(type(slit.come("a")), int)
        self.assertIs(type(slit.windows()), list)
        self.assertIs(type(slit.fitting()), list)
        self.assertIs(type(slit.told()), str)
        self.assertIs(type(slit.undo()), str)


if __name__ == "__main__":
    unittest.main()
