import copy
import unittest

from slitview.errors import Never, NoText, NoView, NoWidth
from slitview.fitting import first, how_many, least_width, rings, texts, twins

from models import WIDTHS, all_texts, all_views, no_texts, no_views, no_widths, plain_ring_view, plain_turns
from models import plain_view, rings_by_view, texts_by_view

LONG_VIEWS = (
    plain_view("aaaaaaaaaaaa", 4), plain_view("abababababab", 4), plain_view("abcabcabcabc", 4),
    plain_view("aaabaaacaaab", 4), plain_view("aaabaaacaaaa", 4), plain_view("abcbabcbaabc", 4),
)


class OfAView(unittest.TestCase):
    def check(self, seen, wanted_texts, wanted_rings):
        with self.subTest(seen):
            self.assertEqual(texts(seen), wanted_texts)
            self.assertIs(type(texts(seen)), list)
            self.assertEqual(how_many(seen), len(wanted_texts))
            self.assertIs(type(how_many(seen)), int)
            self.assertEqual(rings(seen), wanted_rings)
            self.assertIs(type(rings(seen)), list)
            if wanted_texts:
                self.assertEqual(first(seen), wanted_texts[0])
            else:
                with self.assertRaises(Never):
                    first(seen)

    def test_one_text(self):
        self.check((1, ("b",)), ["b"], ["b"])
        self.check((1, ("a", "a", "a")), ["aaa"], ["aaa"])
        self.check((2, ("ab",)), ["ab"], [])
        self.check((2, ("ab", "bc")), ["abc"], [])
        self.check((3, ("abc", "bca", "cab", "cab")), ["cabcab"], [])
        self.check((4, ("abca",)), ["abca"], [])
        self.check((4, ("cccc",)), ["cccc"], ["c"])
        self.check((4, ("cccc", "cccc")), ["ccccc"], ["cc"])

    def test_several_texts(self):
        self.check((1, ("a", "b")), ["ab", "ba"], ["ab"])
        self.check((1, ("a", "b", "c")), ["abc", "acb", "bac", "bca", "cab", "cba"], ["abc", "acb"])
        self.check((2, ("ab", "ba")), ["aba", "bab"], ["ab"])
        self.check((2, ("aa", "ab", "ba")), ["aaba", "abaa", "baab"], ["aab"])
        self.check((2, ("ab", "ac", "ba", "ca")), ["abaca", "acaba", "bacab", "cabac"], ["abac"])
        self.check((2, ("ab", "ab", "bb")), [], [])
        self.check((2, ("aa", "ab", "ba", "bb")), ["aabba", "abbaa", "baabb", "bbaab"], ["aabb"])
        self.check((3, ("aba", "bab")), ["abab", "baba"], ["ab"])
        self.check((4, ("abab", "baba")), ["ababa", "babab"], ["ab"])

    def test_no_text(self):
        self.check((2, ("ab", "ab")), [], [])
        self.check((2, ("ab", "ac")), [], [])
        self.check((2, ("aa", "bb")), [], [])
        self.check((2, ("ab", "ba", "cc")), [], [])
        self.check((3, ("abc", "cab", "cba")), [], [])
        self.check((4, ("aaaa", "bbbb")), [], [])
        self.check((4, ("aaaa",) * 8 + ("cccc",)), [], [])

    def test_texts_but_no_rings(self):
        self.check((2, ("aa", "ab")), ["aab"], [])
        self.check((2, ("ab", "ab", "ba")), ["abab"], [])
        self.check((3, ("aab",)), ["aab"], [])

    def test_several_rings(self):
        self.assertEqual(rings((1, ("a", "a", "b", "b"))), ["aabb", "abab"])
        self.assertEqual(rings((2, ("aa", "ab", "ab", "ba", "ba", "bb"))), ["aababb", "aabbab"])

    def test_every_view_of_short_texts(self):
        for width in WIDTHS:
            for length in range(width, 8):
                for seen, having in texts_by_view(length, width).items():
                    self.assertEqual(texts(seen), having)
                    self.assertEqual(how_many(seen), len(having))
                    self.assertEqual(first(seen), having[0])

    def test_every_view_of_few_windows(self):
        for width, most in ((1, 5), (2, 4), (3, 3), (4, 2)):
            for count in range(1, most + 1):
                by_text = texts_by_view(count + width - 1, width)
                by_ring = rings_by_view(count, width)
                for seen in all_views(width, count):
                    self.check(seen, by_text.get(seen, []), by_ring.get(seen, []))

    def test_every_view_of_short_rings(self):
        for width in WIDTHS:
            for length in range(1, 8):
                for seen, having in rings_by_view(length, width).items():
                    self.assertEqual(rings(seen), having)
                    # Unrolled, each of these rings is a text that has the view.
                    self.assertIn((having[0] * 5)[:length + width - 1], texts(seen))

    def test_nine_windows_of_width_1(self):
        having = texts((1, ("a", "a", "a", "b", "b", "b", "c", "c", "c")))
        self.assertEqual(len(having), 1680)
        self.assertEqual(having, sorted(set(having)))
        self.assertEqual(having[0], "aaabbbccc")
        self.assertEqual(having[-1], "cccbbbaaa")
        self.assertEqual(rings((1, ("a",) * 8 + ("b",))), ["aaaaaaaab"])

    def test_nine_windows_of_width_4(self):
        wanted = {seen: [] for seen in LONG_VIEWS}
        firsts = {seen[1][0] for seen in LONG_VIEWS}
        for text in all_texts(12):
            if any(window in text for window in firsts):
                seen = plain_view(text, 4)
                if seen in wanted:
                    wanted[seen].append(text)
        for seen, having in wanted.items():
            self.assertEqual(texts(seen), having)
            self.assertEqual(how_many(seen), len(having))
            self.assertEqual(first(seen), having[0])

    def test_rings_of_nine_letters(self):
        for text in ("abcabcabc", "aaaaaaaab", "aabaabbab", "abacabaca", "cccccccca"):
            for width in WIDTHS:
                seen = plain_ring_view(text, width)
                told = rings(seen)
                self.assertIn(min(plain_turns(text)), told)
                self.assertEqual(told, sorted(set(told)))
                for ring in told:
                    self.assertEqual(ring, min(plain_turns(ring)))
                    self.assertEqual(plain_ring_view(ring, width), seen)
        by_ring = rings_by_view(9, 2)
        for seen in sorted(by_ring)[::25]:
            self.assertEqual(rings(seen), by_ring[seen])

    def test_never_just_where_no_text_has_it(self):
        by_text = texts_by_view(4, 2)
        for seen in all_views(2, 3):
            if seen in by_text:
                self.assertEqual(first(seen), by_text[seen][0])
            else:
                with self.assertRaises(Never):
                    first(seen)

    def test_changed_lists_change_nothing(self):
        seen = (1, ("a", "b", "c"))
        for asking in (texts, rings):
            told = asking(seen)
            kept = list(told)
            told.append("c")
            told[0] = "b"
            told.reverse()
            self.assertEqual(asking(seen), kept)
            self.assertIsNot(asking(seen), asking(seen))
            asking(seen).clear()
            self.assertEqual(asking(seen), kept)
        self.assertEqual(first(seen), "abc")
        self.assertEqual(how_many(seen), 6)
        empty = texts((2, ("aa", "bb")))
        empty.append("aabb")
        self.assertEqual(texts((2, ("aa", "bb"))), [])
        self.assertEqual(rings((2, ("aa", "bb"))), [])

    def test_equal_views_give_equal_answers(self):
        one = (2, ("ab", "ba"))
        other = tuple([2, tuple(["a" + "b", "b" + "a"])])
        for asking in (texts, how_many, rings, first):
            self.assertEqual(asking(one), asking(other))
            self.assertEqual(asking(one), asking(one))

    def test_what_is_no_view(self):
        for asking in (texts, how_many, rings, first):
            for thing in no_views():
                with self.assertRaises(NoView):
                    asking(thing)

    def test_no_view_ahead_of_never(self):
        with self.assertRaises(NoView):
            first((2, ("bb", "aa")))
        with self.assertRaises(NoView):
            first((2, ("aa",) * 9 + ("bb",)))
        with self.assertRaises(Never):
            first((2, ("aa",) * 8 + ("bb",)))

    def test_what_is_refused_is_not_changed(self):
        for thing in ([2, ["ba", "ab"]], {2: ["ab"]}, (2, ["ba", "ab"]), (2, [["ab"]])):
            kept = copy.deepcopy(thing)
            for asking in (texts, how_many, rings, first):
                with self.assertRaises(NoView):
                    asking(thing)
            self.assertEqual(thing, kept)
        self.assertEqual(texts((2, ("ab", "ba"))), ["aba", "bab"])


class Twins(unittest.TestCase):
    def test_with_twins(self):
        self.assertEqual(twins("ab", 1), ["ba"])
        self.assertEqual(twins("bac", 1), ["abc", "acb", "bca", "cab", "cba"])
        self.assertEqual(twins("aba", 2), ["bab"])
        self.assertEqual(twins("aabaa", 3), ["abaab", "baaba"])
        self.assertEqual(twins("aaabaaa", 4), ["aabaaab", "abaaaba", "baaabaa"])

    def test_without_twins(self):
        self.assertEqual(twins("a", 1), [])
        self.assertEqual(twins("bbbb", 1), [])
        self.assertEqual(twins("abc", 2), [])
        self.assertEqual(twins("abaa", 3), [])
        self.assertEqual(twins("abac", 4), [])
        self.assertEqual(twins("cccccccccccc", 4), [])

    def test_all_short_texts(self):
        for width in WIDTHS:
            for length in range(width, 7):
                for having in texts_by_view(length, width).values():
                    for text in having:
                        self.assertEqual(twins(text, width), [other for other in having if other != text])

    def test_just_nine_windows(self):
        self.assertEqual(len(twins("abcabcabc", 1)), 1679)
        self.assertEqual(twins("aaaaaaaaab", 2), [])
        self.assertEqual(twins("aaaaaaaaba", 2), texts_besides("aaaaaaaaba", 2))
        self.assertEqual(twins("aabaabaabac", 3), texts_besides("aabaabaabac", 3))

    def test_changed_lists_change_nothing(self):
        told = twins("abc", 1)
        told.clear()
        told.append("abc")
        self.assertEqual(twins("abc", 1), ["acb", "bac", "bca", "cab", "cba"])
        twins("abc", 2).append("abc")
        self.assertEqual(twins("abc", 2), [])

    def test_refusals_in_their_order(self):
        for thing in no_texts():
            for width in (1, 0, None, True):
                with self.assertRaises(NoText):
                    twins(thing, width)
        for thing in no_widths():
            for text in ("ab", "a", "a" * 12):
                with self.assertRaises(NoWidth):
                    twins(text, thing)
        for text, width in (("a", 2), ("abc", 4), ("a" * 10, 1), ("a" * 11, 2), ("a" * 12, 3)):
            with self.assertRaises(NoView):
                twins(text, width)


def texts_besides(text, width):
    seen = plain_view(text, width)
    return [other for other in all_texts(len(text)) if other != text and plain_view(other, width) == seen]


class LeastWidth(unittest.TestCase):
    def test_each_width(self):
        self.assertEqual(least_width("a"), 1)
        self.assertEqual(least_width("ccc"), 1)
        self.assertEqual(least_width("ab"), 2)
        self.assertEqual(least_width("abc"), 2)
        self.assertEqual(least_width("aba"), 3)
        self.assertEqual(least_width("abaa"), 3)
        self.assertEqual(least_width("aabaa"), 4)
        self.assertEqual(least_width("abab"), 2)
        self.assertEqual(least_width("abcab"), 2)

    def test_none(self):
        self.assertIsNone(least_width("aaabaaa"))
        self.assertIsNone(least_width("aabaaab"))
        self.assertIsNone(least_width("ccccbccc"))

    def test_no_greater_than_the_letters(self):
        for length in range(1, 5):
            for text in all_texts(length):
                self.assertLessEqual(least_width(text), length)

    def test_all_short_texts(self):
        for length in range(1, 8):
            widths = [width for width in WIDTHS if width <= length]
            groups = {width: texts_by_view(length, width) for width in widths}
            for text in all_texts(length):
                telling = [width for width in widths if groups[width][plain_view(text, width)] == [text]]
                self.assertEqual(least_width(text), min(telling, default=None))

    def test_nine_letters(self):
        self.assertEqual(least_width("aaaaaaaaa"), 1)
        self.assertEqual(least_width("aaaaaaaab"), 2)
        self.assertEqual(least_width("aaaaaaaba"), 3)
        self.assertEqual(least_width("aaaaaabaa"), 4)
        self.assertIsNone(least_width("aaaaabaaa"))
        self.assertIsNone(least_width("aaabcbaaa"))

    def test_ten_letters_and_more(self):
        for length in (10, 11, 12):
            for text in ("a" * length, ("abc" * 4)[:length]):
                with self.assertRaises(NoView):
                    least_width(text)

    def test_what_is_no_text(self):
        for thing in no_texts():
            with self.assertRaises(NoText):
                least_width(thing)


if __name__ == "__main__":
    unittest.main()
