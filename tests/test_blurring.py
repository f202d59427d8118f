import copy
import unittest
from itertools import combinations_with_replacement

from slitview.bars import balance, bar, is_bar
from slitview.blurring import cleared, clears, seen, through
from slitview.errors import Never, NoView
from slitview.fitting import first, how_many, rings, texts

from models import BLURRED_VIEWS, WIDTHS, all_texts, all_views, no_blurred_views, no_views, plain_clearing, plain_clears
from models import plain_some_text, plain_view, texts_by_view

SIX_POINTS = (
    (1, (".",) * 6), (1, (".",) * 6 + ("a", "b", "c")), (2, ("..", "..", "..")), (2, (".a",) * 6 + ("ab", "ba", "bb")),
    (2, ("..", "..", ".a", "a.", "ab", "bc", "ca")), (3, ("...", "...", "aba", "bab")), (3, (".a.", "a..", "b.c", "cb.")),
    (4, ("....", "..aa", "aaab")), (4, ("...a", "...b")), (4, (".aaa", "a.aa", "aa.a", "aaa.", "aba.", "b.aa")),
    (4, (".bca",) * 3 + ("abc.",) * 3 + ("bcab", "bcab", "cabc")),
)


def blurred_windows(width):
    rows = [""]
    for step in range(width):
        rows = [row + sign for row in rows for sign in ".abc"]
    return rows


def all_blurred(width, count):
    for windows in combinations_with_replacement(blurred_windows(width), count):
        if "".join(windows).count(".") <= 6:
            yield (width, windows)


def some_blurred():
    """All blurred views of a few windows, or some of them."""
    for width, count, step in ((1, 1, 1), (1, 2, 1), (1, 3, 1), (1, 4, 1), (2, 1, 1), (2, 2, 1), (2, 3, 7), (3, 1, 1),
                               (3, 2, 31), (4, 1, 3), (4, 2, 701)):
        yield from list(all_blurred(width, count))[::step]
    yield from SIX_POINTS


def plain_cleared(blurred):
    return [view for view in plain_clearing(blurred) if plain_some_text(view[1], view[0])]


def plain_seen(views):
    return sorted(set.intersection(*[set(view[1]) for view in views]))


class Clears(unittest.TestCase):
    def test_without_points(self):
        for width, count in ((1, 3), (2, 2), (4, 1)):
            for view in all_views(width, count):
                for other in all_views(width, count):
                    self.assertIs(clears(view, other), view == other)

    def test_one_point(self):
        self.assertIs(clears((1, (".",)), (1, ("b",))), True)
        self.assertIs(clears((2, (".b",)), (2, ("cb",))), True)
        self.assertIs(clears((2, (".b",)), (2, ("bc",))), False)
        self.assertIs(clears((2, (".b", "ab")), (2, ("ab", "bb"))), True)
        self.assertIs(clears((2, (".b", "ab")), (2, ("ab", "ab"))), True)
        self.assertIs(clears((2, (".b", "ab")), (2, ("bb", "cb"))), False)
        self.assertIs(clears((4, ("ab.a",)), (4, ("abca",))), True)
        self.assertIs(clears((4, ("ab.a",)), (4, ("abcb",))), False)

    def test_views_that_no_text_has(self):
        self.assertIs(clears((2, ("a.", "bb")), (2, ("aa", "bb"))), True)
        self.assertIs(clears((2, ("aa", "bb")), (2, ("aa", "bb"))), True)

    def test_six_points(self):
        self.assertIs(clears((1, (".",) * 6), (1, tuple("aabbcc"))), True)
        self.assertIs(clears((1, (".",) * 6 + ("a", "b", "c")), (1, tuple("aaaaaaabc"))), True)
        self.assertIs(clears((1, (".",) * 6 + ("a", "b", "c")), (1, tuple("aaaaaaabb"))), False)
        self.assertIs(clears((4, ("...a", "...b")), (4, ("ccca", "cccb"))), True)
        self.assertIs(clears((4, ("...a", "...b")), (4, ("cccb", "cccb"))), False)
        self.assertIs(clears((3, ("...", "...")), (3, ("abc", "cba"))), True)

    def test_where_a_first_choice_is_wrong(self):
        self.assertIs(clears((2, (".b", "a.")), (2, ("ab", "ac"))), True)
        self.assertIs(clears((2, (".b", "a.")), (2, ("ab", "cb"))), True)
        self.assertIs(clears((2, (".b", "a.")), (2, ("ac", "cb"))), True)
        self.assertIs(clears((2, (".b", "a.")), (2, ("ac", "bc"))), False)
        self.assertIs(clears((2, ("..", "a.", "ab")), (2, ("ab", "ac", "cc"))), True)
        self.assertIs(clears((2, ("..", "a.", "ab")), (2, ("aa", "ab", "ac"))), True)
        self.assertIs(clears((2, ("..", "a.", "ab")), (2, ("ab", "bc", "cc"))), False)
        self.assertIs(clears((2, (".a", ".b", "a.", "b.")), (2, ("aa", "ab", "ba", "bb"))), True)
        self.assertIs(clears((3, (".ba", "a.a", "ab.")), (3, ("aaa", "aba", "abb"))), True)
        self.assertIs(clears((3, (".ba", "a.a", "ab.")), (3, ("aba", "aca", "cba"))), True)
        self.assertIs(clears((3, (".ba", "a.a", "ab.")), (3, ("aca", "aca", "cba"))), False)

    def test_no_two_to_the_same(self):
        self.assertIs(clears((2, ("a.", "bb")), (2, ("ab", "ac"))), False)
        self.assertIs(clears((2, ("a.", "cc")), (2, ("aa", "ab"))), False)
        self.assertIs(clears((1, (".", "a", "a")), (1, ("a", "b", "b"))), False)

    def test_against_all_orders(self):
        for width, count, step in ((1, 1, 1), (1, 2, 1), (1, 3, 1), (1, 4, 3), (2, 1, 1), (2, 2, 2), (3, 1, 2), (4, 1, 13)):
            views = all_views(width, count)
            for blurred in list(all_blurred(width, count))[::step]:
                for view in views:
                    self.assertIs(clears(blurred, view), plain_clears(blurred, view))

    def test_six_points_against_all_orders(self):
        for blurred in SIX_POINTS:
            if len(blurred[1]) <= 6:
                near = plain_clearing(blurred)[::37]
                for view in near:
                    self.assertIs(clears(blurred, view), True)
                    for letters in ("ab", "bc", "ca"):
                        windows = sorted(window.replace(letters[0], letters[1], 1) for window in view[1])
                        other = (view[0], tuple(windows))
                        self.assertIs(clears(blurred, other), plain_clears(blurred, other))

    def test_other_widths(self):
        for width in WIDTHS:
            for other in WIDTHS:
                if width != other:
                    self.assertIs(clears((width, ("." * width,)), (other, ("a" * other,))), False)
                    self.assertIs(clears((width, ("a" * width,)), (other, ("a" * other,))), False)

    def test_other_numbers_of_windows(self):
        for count in range(1, 7):
            for other in range(1, 10):
                self.assertIs(clears((1, (".",) * count), (1, ("b",) * other)), count == other)
        self.assertIs(clears((2, ("a.",)), (2, ("ab", "ab"))), False)
        self.assertIs(clears((2, ("a.", "a.")), (2, ("ab",))), False)


class Cleared(unittest.TestCase):
    def test_without_points(self):
        for width, count in ((1, 3), (2, 3), (3, 2), (4, 1)):
            having = texts_by_view(count + width - 1, width)
            for view in all_views(width, count):
                self.assertEqual(cleared(view), [view] if view in having else [])
                self.assertEqual(through(view), having.get(view, []))

    def test_one_point(self):
        self.assertEqual(cleared((1, (".",))), [(1, ("a",)), (1, ("b",)), (1, ("c",))])
        self.assertEqual(cleared((2, (".b",))), [(2, ("ab",)), (2, ("bb",)), (2, ("cb",))])
        self.assertEqual(cleared((2, ("ab", "b."))), [(2, ("ab", "ba")), (2, ("ab", "bb")), (2, ("ab", "bc"))])
        self.assertEqual(cleared((2, (".b", "ca"))), [(2, ("ab", "ca"))])
        self.assertEqual(cleared((4, ("abca", "bca."))), [(4, ("abca", "bca" + letter)) for letter in "abc"])

    def test_each_once(self):
        self.assertEqual(cleared((1, (".", "."))), [(1, windows) for windows in combinations_with_replacement("abc", 2)])
        self.assertEqual(len(cleared((1, (".",) * 6))), 28)
        self.assertEqual(len(cleared((1, (".",) * 6 + ("a", "b", "c")))), 28)

    def test_none(self):
        for blurred in ((2, ("aa", "aa", "bb", "c.")), (2, ("a.", "ab", "ab", "ab")), (4, ("....", "aaaa", "bbbb")), (2, ("aa", "bb"))):
            self.assertEqual(cleared(blurred), [])
            self.assertEqual(through(blurred), [])
            with self.assertRaises(Never):
                seen(blurred)

    def test_against_plain_searches(self):
        for blurred in some_blurred():
            wanted = plain_cleared(blurred)
            self.assertEqual(cleared(blurred), wanted)
            for view in wanted:
                self.assertIs(clears(blurred, view), True)

    def test_kinds(self):
        told = cleared((1, (".", "a")))
        self.assertIs(type(told), list)
        self.assertIs(type(told[0]), tuple)
        self.assertIs(type(told[0][1]), tuple)


class Through(unittest.TestCase):
    def test_ordinary_ones(self):
        self.assertEqual(through((1, (".",))), ["a", "b", "c"])
        self.assertEqual(through((1, (".", "b"))), ["ab", "ba", "bb", "bc", "cb"])
        self.assertEqual(through((2, ("ab", "b."))), ["aba", "abb", "abc", "bab"])
        self.assertEqual(through((2, (".b", "ca"))), ["cab"])
        self.assertEqual(through((3, ("a.c",))), ["aac", "abc", "acc"])
        self.assertEqual(through((4, ("....",))), all_texts(4))

    def test_against_all_texts(self):
        for width, count, step in ((1, 1, 1), (1, 2, 1), (1, 3, 1), (1, 4, 2), (2, 1, 1), (2, 2, 1), (2, 3, 29), (3, 2, 61),
                                   (4, 1, 3), (4, 2, 901)):
            groups = texts_by_view(count + width - 1, width)
            for blurred in list(all_blurred(width, count))[::step]:
                wanted = [text for view, having in groups.items() if plain_clears(blurred, view) for text in having]
                self.assertEqual(through(blurred), sorted(wanted))

    def test_six_points(self):
        for blurred in SIX_POINTS:
            length = len(blurred[1]) + blurred[0] - 1
            if length <= 9:
                clearing = set(plain_clearing(blurred))
                wanted = [text for text in all_texts(length) if plain_view(text, blurred[0]) in clearing]
                self.assertEqual(through(blurred), wanted)

    def test_twelve_letters(self):
        text = "abcabcbaabca"
        windows = list(plain_view(text, 4)[1])
        for place in range(6):
            windows[place] = windows[place][:place % 4] + "." + windows[place][place % 4 + 1:]
        blurred = (4, tuple(sorted(windows)))
        told = through(blurred)
        self.assertIn(text, told)
        self.assertEqual(told, sorted(set(told)))
        self.assertEqual(sorted({plain_view(one, 4) for one in told}), cleared(blurred))
        self.assertEqual(cleared(blurred), plain_cleared(blurred))

    def test_rising_over_several_views(self):
        told = through((1, (".", ".", "b")))
        self.assertEqual(told, [text for text in all_texts(3) if "b" in text])


class Seen(unittest.TestCase):
    def test_ordinary_ones(self):
        self.assertEqual(seen((2, ("ab", "b."))), ["ab"])
        self.assertEqual(seen((2, (".b", "ca"))), ["ab", "ca"])
        self.assertEqual(seen((2, ("ab", "ab", "b."))), ["ab", "ba"])
        self.assertEqual(seen((2, ("aa", "aa", "ab"))), ["aa", "ab"])
        self.assertEqual(seen((1, (".", "a", "a", "b"))), ["a", "b"])

    def test_none_in_all(self):
        self.assertEqual(seen((1, (".",))), [])
        self.assertEqual(seen((4, ("....",))), [])
        self.assertEqual(seen((1, (".",) * 6)), [])

    def test_against_plain_searches(self):
        for blurred in some_blurred():
            views = plain_cleared(blurred)
            if views:
                self.assertEqual(seen(blurred), plain_seen(views))
            else:
                with self.assertRaises(Never):
                    seen(blurred)

    def test_never_just_where_cleared_is_empty(self):
        for blurred in list(all_blurred(2, 3))[::5]:
            try:
                told = seen(blurred)
            except Never:
                self.assertEqual(cleared(blurred), [])
            else:
                self.assertNotEqual(cleared(blurred), [])
                self.assertIs(type(told), list)


class Refusals(unittest.TestCase):
    def test_what_is_no_blurred_view(self):
        for thing in no_blurred_views():
            for asking in (cleared, through, seen):
                with self.assertRaises(NoView):
                    asking(thing)
            with self.assertRaises(NoView):
                clears(thing, (1, ("a",)))

    def test_what_is_no_view(self):
        for thing in no_views():
            for blurred in ((1, (".",)), (1, ("a",)), (4, ("aaaa",) * 9)):
                with self.assertRaises(NoView):
                    clears(blurred, thing)

    def test_the_blurred_views_refusal_comes_first(self):
        # Both are refused alike, so the words alone tell which one it was.
        words = []
        for blurred, view in (((1, ("?",)), (1, ("a",))), ((1, ("?",)), (1, ("?",))), ((1, (".",)), (1, ("?",)))):
            with self.assertRaises(NoView) as refused:
                clears(blurred, view)
            words.append(str(refused.exception))
        self.assertEqual(words[0], words[1])
        self.assertNotEqual(words[1], words[2])

    def test_no_view_ahead_of_never(self):
        with self.assertRaises(NoView):
            seen((2, ("bb", "aa")))
        with self.assertRaises(Never):
            seen((2, ("aa", "bb")))

    def test_six_points_and_seven(self):
        for width, six, seven in ((1, (".",) * 6, (".",) * 7), (2, ("..",) * 3, ("..",) * 3 + (".a",)),
                                  (3, ("...",) * 2, ("...", "...", "aa.")), (4, ("....", "..aa"), ("....", "...a"))):
            self.assertEqual(cleared((width, six)), plain_cleared((width, six)))
            for asking in (cleared, through, seen, lambda blurred: clears(blurred, (1, ("a",)))):
                with self.assertRaises(NoView):
                    asking((width, seven))

    def test_a_blurred_view_is_no_view_elsewhere(self):
        for thing in BLURRED_VIEWS:
            for asking in (texts, how_many, rings, first, balance, bar, lambda view: is_bar(view, None)):
                with self.assertRaises(NoView):
                    asking(thing)
            self.assertIs(type(cleared(thing)), list)

    def test_what_is_refused_is_not_changed(self):
        for thing in ([2, ["b.", "ab"]], {2: [".b"]}, (2, ["b.", "a."]), (2, [["a."]])):
            kept = copy.deepcopy(thing)
            for asking in (cleared, through, seen, lambda one: clears(one, one), lambda one: clears((1, (".",)), one)):
                with self.assertRaises(NoView):
                    asking(thing)
            self.assertEqual(thing, kept)
        self.assertEqual(through((1, (".",))), ["a", "b", "c"])


class Told(unittest.TestCase):
    def test_changed_lists_change_nothing(self):
        blurred = (2, ("ab", "b."))
        for asking in (cleared, through, seen):
            told = asking(blurred)
            kept = list(told)
            told.append("c")
            told[0] = "b"
            asking(blurred).clear()
            self.assertEqual(asking(blurred), kept)
            self.assertIsNot(asking(blurred), asking(blurred))

    def test_equal_things_give_equal_answers(self):
        one = (2, ("ab", "b."))
        other = tuple([2, tuple(["a" + "b", "b" + "."])])
        for asking in (cleared, through, seen):
            self.assertEqual(asking(one), asking(other))
        self.assertIs(clears(one, (2, ("ab", "bc"))), clears(other, (2, ("ab", "bc"))))


if __name__ == "__main__":
    unittest.main()
