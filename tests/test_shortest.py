import copy
import random
import unittest
from itertools import product

from slitview.errors import NoText, NoView
from slitview.fitting import first, texts
from slitview.shortest import lacking, shortest, within

from models import WIDTHS, Sullen, all_texts, all_views, endless, no_views, odd_things, plain_view, plain_within
from models import texts_by_view


def plain_shortest(view):
    """By a search through all texts, the shorter ones first, the lesser ones of one length first."""
    length = view[0]
    while True:
        for text in all_texts(length):
            if plain_within(text, view):
                return text
        length += 1


def plain_lacking(text, view):
    return sorted([window for window in set(plain_view(text, view[0])[1])
                   for more in range(plain_view(text, view[0])[1].count(window) - view[1].count(window))])


def views_by_chance(width, count, number):
    chance = random.Random(width * 100 + count)
    return [(width, tuple(sorted(chance.choices(all_texts(width), k=count)))) for step in range(number)]


class Shortest(unittest.TestCase):
    def test_ordinary_views(self):
        self.assertEqual(shortest((1, ("b",))), "b")
        self.assertEqual(shortest((2, ("ab", "cb"))), "abcb")
        self.assertEqual(shortest((2, ("aa", "bb"))), "aabb")
        self.assertEqual(shortest((2, ("ac", "ba"))), "bac")
        self.assertEqual(shortest((3, ("aba", "bbb"))), "ababbb")
        self.assertEqual(shortest((4, ("aaaa", "cccc"))), "aaaacccc")
        self.assertEqual(shortest((4, ("abca", "cabb"))), "abcabb")

    def test_lacking_of_ordinary_views(self):
        self.assertEqual(lacking((1, ("b",))), [])
        self.assertEqual(lacking((2, ("ab", "cb"))), ["bc"])
        self.assertEqual(lacking((2, ("aa", "bb"))), ["ab"])
        self.assertEqual(lacking((3, ("aba", "bbb"))), ["abb", "bab"])
        self.assertEqual(lacking((4, ("aaaa", "cccc"))), ["aaac", "aacc", "accc"])
        self.assertEqual(lacking((2, ("ab", "ab", "ab"))), ["ba", "ba"])

    def test_the_same_window_several_times(self):
        self.assertEqual(shortest((1, ("c",) * 9)), "c" * 9)
        self.assertEqual(shortest((2, ("ab", "ab"))), "abab")
        self.assertEqual(shortest((2, ("aa",) * 9)), "a" * 10)
        self.assertEqual(shortest((2, ("ab",) * 9)), "ab" * 9)
        self.assertEqual(lacking((2, ("ab",) * 9)), ["ba"] * 8)
        self.assertEqual(shortest((3, ("aba",) * 9)), "ab" * 9 + "a")
        self.assertEqual(lacking((3, ("aba",) * 9)), ["bab"] * 8)
        self.assertEqual(shortest((3, ("abb",) * 9)), "abb" * 9)
        # Nine times four letters: the longest of all.
        self.assertEqual(shortest((4, ("abcc",) * 9)), "abcc" * 9)
        self.assertEqual(lacking((4, ("abcc",) * 9)), ["bcca"] * 8 + ["cabc"] * 8 + ["ccab"] * 8)

    def test_of_several_shortest_ones_the_least(self):
        self.assertEqual(shortest((1, ("a", "b", "c"))), "abc")
        self.assertEqual(shortest((2, ("aa", "bb", "cc"))), "aabbcc")
        self.assertEqual(shortest((2, ("bb", "cc"))), "bbcc")
        self.assertEqual(shortest((2, ("ab", "ac"))), "abac")
        self.assertEqual(shortest((2, ("ba", "ca"))), "baca")
        self.assertEqual(shortest((2, ("ab", "ba"))), "aba")
        # The least window first would make the text longer.
        self.assertEqual(shortest((3, ("abc", "bab"))), "babc")
        self.assertEqual(shortest((3, ("aab", "baa"))), "baab")

    def test_where_the_longest_overlap_first_is_wrong(self):
        for view in ((3, ("aab", "aba", "baa", "bab")), (3, ("abb", "bab", "bba")), (4, ("abab", "baab", "baba")),
                     (4, ("aaba", "abaa", "baab")), (3, ("abc", "bca", "cab", "cbc"))):
            self.assertEqual(shortest(view), plain_shortest(view))

    def test_views_that_some_text_has(self):
        for width in WIDTHS:
            for length in range(width, 8):
                for view, having in texts_by_view(length, width).items():
                    self.assertEqual(shortest(view), having[0])
                    self.assertEqual(lacking(view), [])

    def test_views_of_nine_windows_that_some_text_has(self):
        for width in WIDTHS:
            for text in ("abcabcabcabc", "aaabaaacaaab", "cbcbcbabcbcb", "aabbccaabbcc", "cccccccccccc", "cabbacabcacb"):
                view = plain_view(text[:8 + width], width)
                self.assertEqual(len(view[1]), 9)
                self.assertEqual(shortest(view), first(view))
                self.assertEqual(lacking(view), [])

    def test_every_view_of_few_windows(self):
        for width, most in ((1, 4), (2, 3), (3, 2)):
            for count in range(1, most + 1):
                for view in all_views(width, count):
                    wanted = plain_shortest(view)
                    self.assertEqual(shortest(view), wanted)
                    self.assertEqual(lacking(view), plain_lacking(wanted, view))
        for view in all_views(4, 1) + all_views(4, 2)[::61]:
            self.assertEqual(shortest(view), plain_shortest(view))

    def test_windows_by_chance_against_plain_searches(self):
        for width, count, number in ((1, 7, 5), (2, 4, 40), (2, 5, 15), (3, 3, 12), (4, 2, 10)):
            for view in views_by_chance(width, count, number):
                if len(shortest(view)) <= 9:
                    wanted = plain_shortest(view)
                    self.assertEqual(shortest(view), wanted)
                    self.assertEqual(lacking(view), plain_lacking(wanted, view))

    def test_windows_by_chance_have_the_view_within(self):
        for width in WIDTHS:
            for count in range(1, 10):
                for view in views_by_chance(width, count, 12):
                    told = shortest(view)
                    self.assertTrue(plain_within(told, view))
                    self.assertIs(within(told, view), True)
                    self.assertEqual(lacking(view), plain_lacking(told, view))
                    self.assertEqual(len(lacking(view)), len(told) - width + 1 - count)
                    # It can't be made shorter at its ends, nor is it longer than all windows one behind the other.
                    self.assertFalse(plain_within(told[1:], view))
                    self.assertFalse(plain_within(told[:-1], view))
                    self.assertLessEqual(len(told), width * count)
                    self.assertEqual(lacking(view) == [], texts(view) != [])

    def test_kinds(self):
        self.assertIs(type(shortest((2, ("ab", "cb")))), str)
        self.assertIs(type(lacking((2, ("ab", "cb")))), list)

    def test_changed_lists_change_nothing(self):
        view = (2, ("ab", "cb"))
        told = lacking(view)
        told.append("aa")
        told[0] = "cc"
        lacking(view).clear()
        self.assertEqual(lacking(view), ["bc"])
        self.assertEqual(shortest(view), "abcb")
        lacking((1, ("a",))).append("a")
        self.assertEqual(lacking((1, ("a",))), [])

    def test_what_is_no_view(self):
        for thing in no_views():
            for asking in (shortest, lacking):
                with self.assertRaises(NoView):
                    asking(thing)


def no_long_texts():
    forms = ["a" * 61, "abc" * 20 + "a", "a" * 1000, "d" * 60, "a" * 59 + "d", "a" * 30 + " " + "a" * 29, "a" * 59 + "\n", "ab.",
             "abC", "abc ", 1, 60, 61, ["a", "b"], ("a", "b"), (1, ("a",)), ["a"] * 60, b"a" * 60]
    return odd_things() + forms


class Within(unittest.TestCase):
    def test_ordinary_texts(self):
        self.assertIs(within("abcb", (2, ("ab", "cb"))), True)
        self.assertIs(within("abcb", (2, ("ab", "bc", "cb"))), True)
        self.assertIs(within("abcb", (2, ("ba", "cb"))), False)
        self.assertIs(within("cabbac", (3, ("bac", "cab"))), True)
        self.assertIs(within("cabbac", (3, ("bac", "bac", "cab"))), False)
        self.assertIs(within("abab", (4, ("abab",))), True)
        self.assertIs(within("abab", (4, ("baba",))), False)

    def test_windows_that_must_come_several_times(self):
        for count in range(1, 10):
            for letters in range(1, 14):
                self.assertIs(within("b" * letters, (1, ("b",) * count)), letters >= count)
                self.assertIs(within("b" * letters, (4, ("bbbb",) * count)), letters >= count + 3)
        self.assertIs(within("aba", (2, ("ab", "ab"))), False)
        self.assertIs(within("abab", (2, ("ab", "ab"))), True)
        self.assertIs(within("abacab", (2, ("ab", "ab", "ac"))), True)
        self.assertIs(within("abacab", (2, ("ab", "ab", "ac", "ac"))), False)

    def test_shorter_than_the_width(self):
        for width in WIDTHS:
            for length in range(1, width):
                self.assertIs(within("a" * length, (width, ("a" * width,))), False)
            self.assertIs(within("a" * width, (width, ("a" * width,))), True)

    def test_one_thirteen_and_sixty_letters(self):
        self.assertIs(within("b", (1, ("b",))), True)
        self.assertIs(within("b", (1, ("a",))), False)
        self.assertIs(within("a" * 12 + "b", (4, ("aaab",))), True)
        self.assertIs(within("a" * 13, (4, ("aaab",))), False)
        self.assertIs(within("a" * 13, (1, ("a",) * 9)), True)
        self.assertIs(within("abc" * 20, (4, ("abca", "bcab", "cabc") + ("cabc",) * 6)), True)
        self.assertIs(within("abc" * 20, (4, ("abca", "bcab", "ccab"))), False)
        self.assertIs(within("a" * 59 + "b", (2, ("ab",))), True)
        self.assertIs(within("b" + "a" * 59, (2, ("ba",))), True)
        self.assertIs(within("a" * 60, (2, ("ab",))), False)

    def test_sixty_one_letters(self):
        for text in ("a" * 61, "abc" * 20 + "a", "a" * 62, "a" * 10000):
            with self.assertRaises(NoText):
                within(text, (1, ("a",)))

    def test_a_letter_less_or_another_one(self):
        for view in ((2, ("ab", "ab", "cb")), (3, ("abc", "bbb", "cab")), (4, ("abab", "cccc")), (1, ("a", "b", "c"))):
            text = shortest(view)
            self.assertIs(within(text, view), True)
            for place in range(len(text)):
                less = text[:place] + text[place + 1:]
                self.assertIs(within(less, view), False)
                for letter in "abc":
                    other = text[:place] + letter + text[place + 1:]
                    self.assertIs(within(other, view), plain_within(other, view))

    def test_all_short_texts(self):
        for width, count, step in ((1, 2, 1), (1, 3, 1), (2, 2, 1), (2, 3, 11), (3, 2, 29), (4, 1, 7)):
            for view in all_views(width, count)[::step]:
                for length in range(1, 6):
                    for text in all_texts(length):
                        self.assertIs(within(text, view), plain_within(text, view))

    def test_a_text_has_its_own_view_within_it(self):
        for width in WIDTHS:
            for text in ("abcabcabc", "ccbbaaccb", "aaaaaaaaa"):
                self.assertIs(within(text, plain_view(text, width)), True)
                self.assertIs(within("c" + text + "a", plain_view(text, width)), True)

    def test_what_is_no_text(self):
        for thing in no_long_texts():
            for view in ((1, ("a",)), (2, ("bb", "aa")), None):
                with self.assertRaises(NoText):
                    within(thing, view)

    def test_what_is_no_view(self):
        for thing in no_views():
            for text in ("a", "abc" * 20):
                with self.assertRaises(NoView):
                    within(text, thing)

    def test_what_is_refused_is_not_changed(self):
        for thing in ([2, ["ba", "ab"]], {2: ["ab"]}, (2, ["ba", "ab"]), (2, [["ab"]])):
            kept = copy.deepcopy(thing)
            for asking in (shortest, lacking, lambda view: within("ab", view)):
                with self.assertRaises(NoView):
                    asking(thing)
            with self.assertRaises(NoText):
                within(thing, (1, ("a",)))
            self.assertEqual(thing, kept)

    def test_things_that_answer_nothing(self):
        for text, view in product((Sullen(), endless(), [Sullen()]), ((1, ("a",)), Sullen(), (1, (Sullen(),)))):
            with self.assertRaises(NoText):
                within(text, view)
        for view in (Sullen(), endless(), (1, (Sullen(),)), (Sullen(), ("a",))):
            with self.assertRaises(NoView):
                within("a", view)

    def test_equal_things_give_equal_answers(self):
        one = (2, ("ab", "cb"))
        other = tuple([2, tuple(["a" + "b", "c" + "b"])])
        self.assertEqual(shortest(one), shortest(other))
        self.assertEqual(lacking(one), lacking(other))
        self.assertIs(within("abcb", one), within("".join(["ab", "cb"]), other))


if __name__ == "__main__":
    unittest.main()
