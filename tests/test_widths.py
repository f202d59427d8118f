import copy
import unittest

from slitview.errors import Full, NoView, NoWidth
from slitview.fitting import texts
from slitview.widths import by_all, narrower, wider

from models import BLURRED_VIEWS, Sullen, WIDTHS, all_texts, all_views, endless, no_views, odd_things, plain_view
from models import texts_by_view


def plain_views(having, width):
    return sorted({plain_view(text, width) for text in having})


class Narrower(unittest.TestCase):
    def test_ordinary_views(self):
        self.assertEqual(narrower((2, ("ab",))), [(1, ("a", "b"))])
        self.assertEqual(narrower((2, ("ab", "bc"))), [(1, ("a", "b", "c"))])
        self.assertEqual(narrower((3, ("abc", "bca"))), [(2, ("ab", "bc", "ca"))])
        self.assertEqual(narrower((4, ("aaaa",))), [(3, ("aaa", "aaa"))])

    def test_of_several_texts(self):
        self.assertEqual(narrower((2, ("ab", "ba"))), [(1, ("a", "a", "b")), (1, ("a", "b", "b"))])
        self.assertEqual(narrower((3, ("aba", "bab"))), [(2, ("ab", "ab", "ba")), (2, ("ab", "ba", "ba"))])
        # Several texts, but one view.
        self.assertEqual(len(texts((2, ("aa", "ab", "ac", "ba")))), 2)
        self.assertEqual(narrower((2, ("aa", "ab", "ac", "ba"))), [(1, ("a", "a", "a", "b", "c"))])

    def test_that_no_text_has(self):
        for view in ((2, ("aa", "bb")), (2, ("ab", "ab")), (3, ("aba", "abb")), (4, ("aaaa",) * 7 + ("cccc",))):
            self.assertEqual(narrower(view), [])

    def test_every_view_of_few_windows(self):
        for width, most in ((2, 4), (3, 3), (4, 2)):
            for count in range(1, most + 1):
                having = texts_by_view(count + width - 1, width)
                for view in all_views(width, count):
                    self.assertEqual(narrower(view), plain_views(having.get(view, []), width - 1))

    def test_eight_windows(self):
        for width in (2, 3, 4):
            for text in ("abcabcabcabc", "aaabaaacaaab", "cbcbcbabcbcb", "aabbccaabbcc", "cccccccccccc"):
                view = plain_view(text[:7 + width], width)
                self.assertEqual(len(view[1]), 8)
                told = narrower(view)
                self.assertIn(plain_view(text[:7 + width], width - 1), told)
                self.assertEqual(told, plain_views(texts(view), width - 1))
        groups = texts_by_view(9, 2)
        for view in list(groups)[::40]:
            self.assertEqual(narrower(view), plain_views(groups[view], 1))

    def test_nine_windows(self):
        for width in (2, 3, 4):
            for view in (plain_view("a" * (8 + width), width), plain_view("abcabcabcabc"[:8 + width], width),
                         (width, ("a" * width,) * 8 + ("b" * width,))):
                self.assertEqual(len(view[1]), 9)
                with self.assertRaises(Full):
                    narrower(view)

    def test_width_1(self):
        for count in range(1, 10):
            # Of nine windows too the width is refused, not their number.
            with self.assertRaises(NoWidth):
                narrower((1, ("a",) * count))


class Wider(unittest.TestCase):
    def test_ordinary_views(self):
        self.assertEqual(wider((2, ("ab", "bc"))), [(3, ("abc",))])
        self.assertEqual(wider((3, ("abc", "bca", "caa"))), [(4, ("abca", "bcaa"))])
        self.assertEqual(wider((1, ("a", "a"))), [(2, ("aa",))])

    def test_of_several_texts(self):
        self.assertEqual(wider((1, ("a", "b"))), [(2, ("ab",)), (2, ("ba",))])
        self.assertEqual(wider((2, ("ab", "ba"))), [(3, ("aba",)), (3, ("bab",))])
        self.assertEqual(wider((1, ("a", "a", "b", "b"))), [
            (2, ("aa", "ab", "ba")), (2, ("aa", "ab", "bb")), (2, ("aa", "ba", "bb")), (2, ("ab", "ab", "ba")),
            (2, ("ab", "ba", "ba")), (2, ("ab", "ba", "bb"))])
        # Five texts, but four views.
        self.assertEqual(len(texts((2, ("aa", "ab", "ab", "ba", "ba")))), 5)
        self.assertEqual(wider((2, ("aa", "ab", "ab", "ba", "ba"))), [
            (3, ("aab", "aba", "aba", "baa")), (3, ("aab", "aba", "aba", "bab")), (3, ("aab", "aba", "baa", "bab")),
            (3, ("aba", "aba", "baa", "bab"))])

    def test_one_window(self):
        for width in (1, 2, 3):
            for window in all_texts(width):
                self.assertEqual(wider((width, (window,))), [])

    def test_that_no_text_has(self):
        for view in ((2, ("aa", "bb")), (2, ("ab", "ab")), (3, ("aba", "abb")), (3, ("aaa",) * 8 + ("ccc",))):
            self.assertEqual(wider(view), [])

    def test_every_view_of_few_windows(self):
        for width, most in ((1, 5), (2, 4), (3, 3)):
            for count in range(2, most + 1):
                having = texts_by_view(count + width - 1, width)
                for view in all_views(width, count):
                    self.assertEqual(wider(view), plain_views(having.get(view, []), width + 1))

    def test_nine_windows(self):
        for width in (1, 2, 3):
            for text in ("abcabcabcabc", "aaabaaacaaab", "cbcbcbabcbcb", "aabbccaabbcc", "cccccccccccc"):
                view = plain_view(text[:8 + width], width)
                self.assertEqual(len(view[1]), 9)
                told = wider(view)
                self.assertIn(plain_view(text[:8 + width], width + 1), told)
                self.assertEqual(told, plain_views(texts(view), width + 1))

    def test_width_4(self):
        for count in range(1, 10):
            with self.assertRaises(NoWidth):
                wider((4, ("aaaa",) * count))
        with self.assertRaises(NoWidth):
            wider((4, ("aaaa", "bbbb")))


class Both(unittest.TestCase):
    def test_each_once_and_rising(self):
        for asking, views in ((narrower, all_views(2, 4)), (wider, all_views(1, 6) + all_views(2, 4))):
            for view in views:
                told = asking(view)
                self.assertEqual(told, sorted(set(told)))

    def test_what_is_no_view(self):
        for thing in no_views():
            for asking in (narrower, wider):
                with self.assertRaises(NoView):
                    asking(thing)

    def test_no_view_ahead(self):
        for asking, width in ((narrower, 1), (wider, 4)):
            for windows in (("b" * width, "a" * width), (), ("a" * width,) * 10, ["a" * width], ("." * width,)):
                with self.assertRaises(NoView):
                    asking((width, windows))
        with self.assertRaises(NoView):
            narrower((2, ("bb",) * 8 + ("aa",)))
        with self.assertRaises(NoView):
            narrower((2, ("bb",) * 10))

    def test_kinds_and_new_lists(self):
        for asking in (narrower, wider):
            for view in ((2, ("ab", "ba")), (2, ("aa", "bb")), (2, ("ab",))):
                told = asking(view)
                self.assertIs(type(told), list)
                kept = list(told)
                for one in told:
                    self.assertIs(type(one), tuple)
                    self.assertIs(type(one[0]), int)
                    self.assertIs(type(one[1]), tuple)
                told.reverse()
                told.append(view)
                self.assertEqual(asking(view), kept)

    def test_what_is_refused_is_not_changed(self):
        for thing in ([2, ["ba", "ab"]], {2: ["ab"]}, (2, ["ba", "ab"]), (2, [["ab"]])):
            kept = copy.deepcopy(thing)
            for asking in (narrower, wider, by_all, lambda view: by_all([(1, ("a",)), view])):
                with self.assertRaises(NoView):
                    asking(thing)
            self.assertEqual(thing, kept)


class ByAll(unittest.TestCase):
    def test_one_view(self):
        for width, count in ((1, 3), (2, 3), (3, 2), (4, 1)):
            having = texts_by_view(count + width - 1, width)
            for view in all_views(width, count):
                self.assertEqual(by_all([view]), having.get(view, []))

    def test_ordinary_views(self):
        self.assertEqual(by_all([(1, ("a", "a", "b")), (2, ("ab", "ba"))]), ["aba"])
        self.assertEqual(by_all([(2, ("ab", "ba")), (1, ("a", "b", "b"))]), ["bab"])
        self.assertEqual(by_all([(2, ("ab", "ba")), (1, ("a", "b", "c"))]), [])
        self.assertEqual(by_all([(2, ("aa", "ab", "ba")), (3, ("aab", "baa"))]), ["baab"])

    def test_views_of_one_text(self):
        for length in range(1, 7):
            widths = [width for width in WIDTHS if width <= length]
            groups = {width: texts_by_view(length, width) for width in widths}
            for text in all_texts(length)[::3 if length > 4 else 1]:
                views = [plain_view(text, width) for width in widths]
                for chosen in (views, views[::-1], views[:2], views[1:] or views, views[-1:], views[::2], views[-2:] + views[:1]):
                    sets = [set(groups[width][view]) for width, view in zip(widths, views) if view in chosen]
                    self.assertEqual(by_all(chosen), sorted(set.intersection(*sets)))
                    self.assertIn(text, by_all(chosen))

    def test_four_views_of_nine_letters(self):
        text = "aaabcbaaa"
        views = [plain_view(text, width) for width in WIDTHS]
        wanted = [other for other in texts(views[3]) if [plain_view(other, width) for width in WIDTHS] == views]
        self.assertEqual(by_all(views), wanted)
        self.assertEqual(by_all([views[2], views[0], views[3], views[1]]), wanted)

    def test_the_same_view_twice(self):
        view = (1, ("a", "b", "c"))
        for count in range(1, 5):
            self.assertEqual(by_all([view] * count), ["abc", "acb", "bac", "bca", "cab", "cba"])
        self.assertEqual(by_all([view, (2, ("ab", "bc")), view]), ["abc"])

    def test_two_unlike_views_of_one_width(self):
        self.assertEqual(by_all([(1, ("a", "b")), (1, ("a", "c"))]), [])
        self.assertEqual(by_all([(2, ("ab",)), (2, ("ba",))]), [])

    def test_views_of_unlike_lengths(self):
        self.assertEqual(by_all([(1, ("a", "a")), (2, ("aa", "aa"))]), [])
        self.assertEqual(by_all([(2, ("aa", "aa")), (1, ("a", "a"))]), [])
        self.assertEqual(by_all([(4, ("aaaa",)), (1, ("a",))]), [])
        self.assertEqual(by_all([(1, ("a",)), (4, ("aaaa",))]), [])
        # Texts of twelve letters have no view of width 1, and no text of nine has nine windows of width 4.
        self.assertEqual(by_all([(4, ("aaaa",) * 9), (1, ("a",) * 9)]), [])
        self.assertEqual(by_all([(1, ("a",) * 9), (4, ("aaaa",) * 9)]), [])
        self.assertEqual(by_all([(3, ("aaa",) * 9), (4, ("aaaa",) * 8), (4, ("aaaa",) * 8)]), ["a" * 11])

    def test_that_no_text_has(self):
        self.assertEqual(by_all([(2, ("aa", "bb"))]), [])
        self.assertEqual(by_all([(1, ("a", "a", "b", "b")), (2, ("aa", "bb", "bb"))]), [])
        self.assertEqual(by_all([(2, ("aa", "bb", "bb")), (1, ("a", "a", "b", "b"))]), [])

    def test_what_is_no_list_of_views(self):
        view = (1, ("a",))
        forms = [[], [view] * 5, [view] * 100, (view,), (view, view), view, {view: True}, {view}, iter([view]), "1: a",
                 [view, None], [None, view], [[view]], [view, [view]], [(view,)], [view, 1], [view, True], [1, ("a",)],
                 [view, view, view, (2, ("b", "a"))], [view, view, view, view, None], [Sullen()], [view, Sullen()],
                 [endless()], [(True, ("a",))], [view, (1, ["a"])], [view, (1, (True,))]]
        for thing in odd_things() + forms:
            with self.assertRaises(NoView):
                by_all(thing)

    def test_a_list_in_which_one_is_no_view(self):
        for thing in no_views():
            for views in ([thing], [thing, (1, ("a",))], [(1, ("a",)), thing], [(2, ("aa", "bb"))] * 3 + [thing]):
                with self.assertRaises(NoView):
                    by_all(views)

    def test_blurred_views(self):
        for thing in BLURRED_VIEWS:
            with self.assertRaises(NoView):
                by_all([thing])

    def test_the_list_is_as_it_was(self):
        for views in ([(1, ("a", "a", "b")), (2, ("ab", "ba"))], [(2, ("ab", "ba"))], [(2, ("ab", "ba")), (1, ("a", "b", "c"))] * 2):
            kept = copy.deepcopy(views)
            told = by_all(views)
            self.assertEqual(views, kept)
            self.assertIs(type(told), list)
            told.append("c")
            self.assertEqual(views, kept)
            self.assertEqual(by_all(views), told[:-1])
        for views in ([(2, ("ab", "ba")), None], [None] * 5, [[1]]):
            kept = copy.deepcopy(views)
            with self.assertRaises(NoView):
                by_all(views)
            self.assertEqual(views, kept)

    def test_the_list_is_not_kept(self):
        views = [(1, ("a", "b"))]
        told = by_all(views)
        views.append((2, ("ab",)))
        self.assertEqual(told, ["ab", "ba"])
        self.assertEqual(by_all(views), ["ab"])


if __name__ == "__main__":
    unittest.main()
