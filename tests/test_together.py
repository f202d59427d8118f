import copy
import random
import time
import unittest
from itertools import combinations_with_replacement

from slitview.errors import Full, Never, NoView
from slitview.fitting import texts
from slitview.together import bundle, fewest_texts, pairs, sure

from models import WIDTHS, all_texts, all_views, no_views, plain_view, texts_by_view


def windows_of(several, width):
    return tuple(sorted(window for text in several for window in plain_view(text, width)[1]))


def lists_by_view(width, count, number):
    """All rising lists of so many texts, by the view of so many windows that they have together."""
    having = [text for length in range(width, width + count) for text in all_texts(length)]
    groups = {}
    for several in combinations_with_replacement(sorted(having), number):
        if sum(len(text) - width + 1 for text in several) == count:
            groups.setdefault((width, windows_of(several, width)), []).append(list(several))
    return groups


def plain_partings(windows):
    """All ways to part windows among texts, by putting each window into a part that is there, or into a new one."""
    if not windows:
        return [[]]
    found = []
    for parting in plain_partings(windows[1:]):
        found.append([[windows[0]]] + parting)
        for place in range(len(parting)):
            found.append(parting[:place] + [[windows[0]] + parting[place]] + parting[place + 1:])
    return found


def plain_lists(view):
    """All rising lists of texts, however many, that have a view together."""
    width, windows = view
    found = set()
    for parting in plain_partings(list(windows)):
        lists = [()]
        for part in parting:
            lists = [row + (text,) for row in lists for text in texts((width, tuple(sorted(part))))]
        found |= {tuple(sorted(row)) for row in lists}
    return found


def views_by_chance(width, count, number):
    chance = random.Random(width * 1000 + count)
    return [(width, tuple(sorted(chance.choices(all_texts(width), k=count)))) for step in range(number)]


class Pairs(unittest.TestCase):
    def test_ordinary_views(self):
        self.assertEqual(pairs((2, ("ab", "bc"))), [("ab", "bc")])
        self.assertEqual(pairs((2, ("aa", "bb"))), [("aa", "bb")])
        self.assertEqual(pairs((2, ("aa", "ab", "cc"))), [("aab", "cc")])
        self.assertEqual(pairs((3, ("abc", "bca", "ccc"))), [("abca", "ccc")])
        self.assertEqual(pairs((2, ("ab", "ba", "bb"))), [("ab", "bba"), ("aba", "bb"), ("abb", "ba"), ("bab", "bb")])

    def test_views_of_one_text_too(self):
        self.assertEqual(pairs((2, ("ab", "ba"))), [("ab", "ba")])
        self.assertEqual(pairs((4, ("aaaa",) * 3)), [("aaaa", "aaaaa")])

    def test_of_neither(self):
        self.assertEqual(pairs((2, ("aa", "bb", "cc"))), [])
        self.assertEqual(pairs((2, ("ab", "ab", "ab"))), [])
        self.assertEqual(pairs((4, ("aaaa", "bbbb", "cccc", "cccc"))), [])

    def test_the_same_text_twice(self):
        self.assertEqual(pairs((2, ("ab", "ab"))), [("ab", "ab")])
        self.assertEqual(pairs((1, ("c", "c"))), [("c", "c")])
        self.assertEqual(pairs((1, ("a",) * 6)), [("a", "aaaaa"), ("aa", "aaaa"), ("aaa", "aaa")])
        self.assertIn(("abc", "abc"), pairs((2, ("ab", "ab", "bc", "bc"))))

    def test_width_1(self):
        self.assertEqual(pairs((1, ("a", "b"))), [("a", "b")])
        self.assertEqual(pairs((1, ("a", "b", "c"))), [("a", "bc"), ("a", "cb"), ("ab", "c"), ("ac", "b"), ("b", "ca"), ("ba", "c")])

    def test_one_window(self):
        for width in WIDTHS:
            for window in all_texts(width):
                self.assertEqual(pairs((width, (window,))), [])

    def test_every_view_of_few_windows(self):
        for width, most in ((1, 5), (2, 4), (3, 3), (4, 2)):
            for count in range(2, most + 1):
                groups = lists_by_view(width, count, 2)
                for view in all_views(width, count):
                    wanted = sorted(tuple(several) for several in groups.get(view, []))
                    self.assertEqual(pairs(view), wanted)

    def test_six_windows(self):
        for view in views_by_chance(1, 6, 3) + views_by_chance(2, 6, 12) + [
                plain_view("aabaabaa", 3), plain_view("abcabca", 2), plain_view("ababababa", 4), (1, tuple("aabbcc"))]:
            self.assertEqual(len(view[1]), 6)
            self.assertEqual(pairs(view), sorted(row for row in plain_lists(view) if len(row) == 2))

    def test_the_lesser_first_each_once_rising(self):
        for view in ((1, tuple("aabbcc")), (1, tuple("aaabc")), (2, ("ab", "ab", "ba", "ba", "bb", "bb"))):
            told = pairs(view)
            self.assertGreater(len(told), 3)
            self.assertEqual(told, sorted(set(told)))
            for one, other in told:
                self.assertLessEqual(one, other)
                self.assertEqual(windows_of((one, other), view[0]), view[1])

    def test_kinds_and_new_lists(self):
        told = pairs((1, ("a", "b")))
        self.assertIs(type(told), list)
        self.assertIs(type(told[0]), tuple)
        told.append(("b", "a"))
        told[0] = None
        self.assertEqual(pairs((1, ("a", "b"))), [("a", "b")])
        pairs((1, ("a",))).append(("a", "a"))
        self.assertEqual(pairs((1, ("a",))), [])


class FewestTexts(unittest.TestCase):
    def test_ordinary_views(self):
        self.assertEqual(fewest_texts((1, ("a",))), 1)
        self.assertEqual(fewest_texts((2, ("ab", "bc"))), 1)
        self.assertEqual(fewest_texts((2, ("ab", "ac"))), 2)
        self.assertEqual(fewest_texts((2, ("ab", "ab", "ab"))), 3)
        self.assertEqual(fewest_texts((2, ("ab", "ba", "cc"))), 2)

    def test_windows_that_fall_into_several_parts(self):
        self.assertEqual(fewest_texts((2, ("aa", "bb", "cc"))), 3)
        self.assertEqual(fewest_texts((2, ("ab", "ab", "cc"))), 3)
        self.assertEqual(fewest_texts((3, ("aaa", "aab", "bca", "cab", "ccc"))), 3)
        self.assertEqual(fewest_texts((3, ("aba", "bab", "ccc", "ccc"))), 2)
        # Two parts: one that goes round, and one that must be begun three times.
        self.assertEqual(fewest_texts((3, ("aaa", "aab", "aab", "aab", "ccc"))), 4)

    def test_windows_that_all_stand_alone(self):
        self.assertEqual(fewest_texts((4, ("abca",) * 9)), 9)
        self.assertEqual(fewest_texts((2, ("ab",) * 9)), 9)
        self.assertEqual(fewest_texts((4, ("aaaa", "abca", "bbbb", "cacc", "cccc"))), 5)
        windows = ("aaab", "aacb", "abbc", "accb", "babb", "bacc", "bbaa", "cbab", "ccba")
        self.assertEqual(fewest_texts((4, windows)), min(len(row) for row in plain_lists((4, windows))))

    def test_one_just_where_some_text_has_it(self):
        for width, most in ((1, 5), (2, 4), (3, 3), (4, 2)):
            for count in range(1, most + 1):
                having = texts_by_view(count + width - 1, width)
                for view in all_views(width, count):
                    self.assertEqual(fewest_texts(view) == 1, view in having)

    def test_against_plain_searches(self):
        for width, count, step in ((1, 4, 1), (2, 2, 1), (2, 3, 1), (2, 4, 3), (3, 2, 2), (3, 3, 41), (4, 2, 29)):
            for view in all_views(width, count)[::step]:
                self.assertEqual(fewest_texts(view), min(len(row) for row in plain_lists(view)))
        for width in (2, 3, 4):
            for count in (5, 6):
                for view in views_by_chance(width, count, 15):
                    self.assertEqual(fewest_texts(view), min(len(row) for row in plain_lists(view)))

    def test_nine_windows(self):
        started = time.perf_counter()
        for width in WIDTHS:
            for view in views_by_chance(width, 9, 100):
                told = fewest_texts(view)
                self.assertIs(type(told), int)
                self.assertEqual(told == 1, texts(view) != [])
                # A window less takes a text less, or as many, or one more.
                less = fewest_texts((width, view[1][:8]))
                self.assertLessEqual(abs(told - less), 1)
        self.assertLess(time.perf_counter() - started, 20)

    def test_nine_windows_of_several_texts(self):
        self.assertEqual(fewest_texts((2, windows_of(("abab", "cc", "abab", "cc", "cc"), 2))), 3)
        # aabccccc, aab, and bba twice.
        self.assertEqual(fewest_texts((3, windows_of(("aab", "bba", "ccc", "aab", "bba", "ccc", "abcc", "ccc"), 3))), 4)
        self.assertEqual(fewest_texts((1, tuple("aaabbbccc"))), 1)


class Bundle(unittest.TestCase):
    def test_ordinary_views(self):
        self.assertEqual(bundle((1, ("b",))), ["b"])
        self.assertEqual(bundle((2, ("ab", "ba"))), ["aba"])
        self.assertEqual(bundle((2, ("ab", "ac"))), ["ab", "ac"])
        self.assertEqual(bundle((2, ("ab", "ab"))), ["ab", "ab"])
        self.assertEqual(bundle((2, ("aa", "bb", "cc"))), ["aa", "bb", "cc"])
        self.assertEqual(bundle((2, ("ab", "ab", "ba", "cc"))), ["abab", "cc"])
        self.assertEqual(bundle((4, ("abca",) * 6)), ["abca"] * 6)

    def test_the_least_of_several_lists(self):
        # A text is less than a longer one that begins with it, so the shorter texts come first here: not abb, cb.
        self.assertEqual(bundle((2, ("ab", "ac", "cb"))), ["ab", "acb"])
        self.assertEqual(bundle((2, ("ab", "bb", "cb", "cb"))), ["ab", "cb", "cbb"])
        self.assertEqual(bundle((2, ("aa", "ab", "ab"))), ["aab", "ab"])
        self.assertEqual(bundle((2, ("ab", "bb", "cb"))), ["ab", "cbb"])
        self.assertEqual(bundle((2, ("ab", "ba", "bc", "bc"))), ["babc", "bc"])

    def plain_fewest(self, view):
        lists = plain_lists(view)
        fewest = min(len(row) for row in lists)
        return [list(row) for row in lists if len(row) == fewest]

    def test_every_view_of_few_windows(self):
        for width, count, step in ((1, 1, 1), (1, 4, 1), (2, 1, 1), (2, 2, 1), (2, 3, 1), (2, 4, 3), (3, 2, 2), (3, 3, 41), (4, 2, 29)):
            for view in all_views(width, count)[::step]:
                self.assertEqual(bundle(view), min(self.plain_fewest(view)))

    def test_lists_of_all_texts(self):
        # Against all texts, not through the program's own.
        for width, count in ((1, 3), (2, 3), (3, 2)):
            groups = {number: lists_by_view(width, count, number) for number in range(1, count + 1)}
            for view in all_views(width, count):
                fewest = min(number for number in groups if view in groups[number])
                self.assertEqual(fewest_texts(view), fewest)
                self.assertEqual(bundle(view), min(groups[fewest][view]))

    def test_six_windows(self):
        several = 0
        for width in (2, 3, 4):
            for view in views_by_chance(width, 6, 25) + views_by_chance(width, 5, 10):
                lists = self.plain_fewest(view)
                self.assertEqual(bundle(view), min(lists))
                several += len(lists) > 1
        self.assertGreater(several, 10)

    def test_their_windows_are_the_views(self):
        for width in WIDTHS:
            for count in range(1, 7):
                for view in views_by_chance(width, count, 10):
                    told = bundle(view)
                    self.assertEqual(windows_of(told, width), view[1])
                    self.assertEqual(told, sorted(told))
                    self.assertEqual(len(told), fewest_texts(view))
                    self.assertIs(type(told), list)

    def test_new_lists(self):
        told = bundle((2, ("aa", "bb")))
        told.reverse()
        told.append("cc")
        self.assertEqual(bundle((2, ("aa", "bb"))), ["aa", "bb"])


class Sure(unittest.TestCase):
    def test_one_text(self):
        self.assertEqual(sure((1, ("b",))), "b")
        self.assertEqual(sure((2, ("ab", "bc"))), "abc")
        self.assertEqual(sure((4, ("cccc",) * 9)), "c" * 12)

    def test_the_same_letters_at_some_places(self):
        self.assertEqual(texts((2, ("aa", "ab", "ac", "ba"))), ["aabac", "abaac"])
        self.assertEqual(sure((2, ("aa", "ab", "ac", "ba"))), "a..ac")
        self.assertEqual(sure(plain_view("cabbabcabb", 3)), "cab.ab.abb")

    def test_at_no_place(self):
        self.assertEqual(sure((1, ("a", "b"))), "..")
        self.assertEqual(sure((2, ("ab", "ba"))), "...")
        self.assertEqual(sure((1, tuple("aaabbbccc"))), "." * 9)

    def test_where_some_but_not_all_are_the_same(self):
        # At the first place two of three texts have an a.
        self.assertEqual(texts((2, ("aa", "ab", "ba"))), ["aaba", "abaa", "baab"])
        self.assertEqual(sure((2, ("aa", "ab", "ba"))), "....")

    def test_every_view_of_short_texts(self):
        for width in WIDTHS:
            for length in range(width, 8):
                for view, having in texts_by_view(length, width).items():
                    wanted = "".join(signs[0] if len(set(signs)) == 1 else "." for signs in zip(*having))
                    self.assertEqual(sure(view), wanted)

    def test_never(self):
        for width, count in ((2, 3), (3, 2), (4, 2)):
            having = texts_by_view(count + width - 1, width)
            for view in all_views(width, count):
                if view not in having:
                    with self.assertRaises(Never):
                        sure(view)


class Refusals(unittest.TestCase):
    def test_what_is_no_view(self):
        for thing in no_views():
            for asking in (pairs, fewest_texts, bundle, sure):
                with self.assertRaises(NoView):
                    asking(thing)

    def test_more_than_six_windows(self):
        for width in WIDTHS:
            for count in range(1, 10):
                for window in ("a" * width, "abca"[:width]):
                    view = (width, (window,) * count)
                    for asking in (pairs, bundle):
                        if count > 6:
                            with self.assertRaises(Full):
                                asking(view)
                        else:
                            self.assertIs(type(asking(view)), list)
                    self.assertIs(type(fewest_texts(view)), int)

    def test_no_view_ahead(self):
        for view in ((2, ("bb",) * 6 + ("aa",)), (2, ("aa",) * 10), (1, (".",) * 6 + ("a",)), (1, ["a"] * 7)):
            for asking in (pairs, bundle):
                with self.assertRaises(NoView):
                    asking(view)
        for view in ((2, ("bb", "aa")), (2, ("aa",) * 9 + ("bb",)), (2, (".a", "bb"))):
            with self.assertRaises(NoView):
                sure(view)

    def test_what_is_refused_is_not_changed(self):
        for thing in ([2, ["ba", "ab"]], {2: ["ab"]}, (2, ["ba", "ab"]), (2, [["ab"]])):
            kept = copy.deepcopy(thing)
            for asking in (pairs, fewest_texts, bundle, sure):
                with self.assertRaises(NoView):
                    asking(thing)
            self.assertEqual(thing, kept)


if __name__ == "__main__":
    unittest.main()
