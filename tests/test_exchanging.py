import copy
import time
import unittest

from slitview.errors import NoText, NoView, NoWidth, Unlike
from slitview.exchanging import exchanged, farthest, road, steps
from slitview.fitting import texts, twins

from models import WIDTHS, all_texts, no_texts, no_widths, plain_steps_off, plain_view, texts_by_view

LONG_TEXTS = {
    1: ("aaaaaaaab", "aaaaaaabb", "abcaaaaaa"),
    2: ("abcabcabca", "aababbaaba", "abacabacab", "cccccccccc"),
    3: ("aabaabaabaa", "abababababa", "aaabaabaaab", "abcabcabcab", "abacabacaba"),
    4: ("aaabaaacaaab", "abababababab", "abcabcabcabc", "aaaabaaaabaa", "cabbcabbcabb", "aaabaaacaaaa"),
}


def plain_distances(text, width):
    far = {text: 0}
    row = [text]
    while row:
        later = []
        for one in row:
            for other in plain_steps_off(one, width):
                if other not in far:
                    far[other] = far[one] + 1
                    later.append(other)
        row = later
    return far


def plain_roads(one, other, width, far):
    """All roads with as few steps as can be; `far` tells how far each text is from the other one."""
    if one == other:
        return [[one]]
    nearer = [text for text in plain_steps_off(one, width) if far[text] == far[one] - 1]
    return [[one] + way for text in nearer for way in plain_roads(text, other, width, far)]


def classes(lengths):
    for width, most in lengths:
        for length in range(width, most + 1):
            for having in texts_by_view(length, width).values():
                yield width, having


class Exchanged(unittest.TestCase):
    def test_no_piece_comes_again(self):
        for text, width in (("a", 1), ("bb", 1), ("abc", 2), ("abcc", 3), ("abca", 3), ("aabbc", 3), ("abcabb", 4)):
            self.assertEqual(exchanged(text, width), [])

    def test_width_1(self):
        self.assertEqual(exchanged("ab", 1), ["ba"])
        self.assertEqual(exchanged("abc", 1), ["acb", "bac", "bca", "cab", "cba"])
        self.assertEqual(exchanged("aab", 1), ["aba", "baa"])
        # By a turn, by stretches with others between them, by stretches that touch; some are two steps off.
        for text in ("bcabca", "cbaabc", "acbabc"):
            self.assertIn(text, exchanged("abcabc", 1))
        self.assertNotIn("cbacba", exchanged("abcabc", 1))

    def test_stretches_that_touch(self):
        # From a to a come ab and a.
        self.assertEqual(exchanged("abaac", 2), ["aabac"])
        self.assertEqual(exchanged("aabac", 2), ["abaac"])
        # From ab to ab come abb and abc.
        self.assertEqual(exchanged("cabbabcabb", 3), ["cabcabbabb"])
        self.assertEqual(exchanged("abcabbaba", 3), ["ababcabba", "abbabcaba", "abcababba"])

    def test_stretches_of_unlike_length(self):
        # From a to b come ac and a, with bc between them.
        self.assertEqual(exchanged("cacbcabb", 2), plain_steps_off("cacbcabb", 2))
        self.assertIn("cabcacbb", exchanged("cacbcabb", 2))
        # From a to b come a and aa.
        self.assertEqual(exchanged("abcaabb", 2), ["aabbcab", "aabcabb", "abbcaab"])
        # From bc to cc come bc and b, with cca between them.
        self.assertEqual(exchanged("abcccaabccb", 3), ["abccaabcccb"])

    def test_turns(self):
        self.assertEqual(exchanged("aba", 2), ["bab"])
        self.assertEqual(exchanged("abca", 2), ["bcab", "cabc"])
        self.assertEqual(exchanged("abcab", 3), ["bcabc", "cabca"])
        self.assertEqual(exchanged("abcabc", 4), ["bcabca", "cabcab"])
        self.assertEqual(exchanged("abab", 3), ["baba"])
        self.assertEqual(exchanged("aaabaaa", 4), ["aabaaab", "abaaaba", "baaabaa"])
        # The last piece is not the first one: no turn.
        self.assertEqual(exchanged("abcab", 2), [])
        self.assertEqual(exchanged("aaaa", 2), [])
        self.assertEqual(exchanged("cccccccccccc", 4), [])

    def test_one_window(self):
        for text in ("a", "ab", "aa", "aba", "aaa", "abca", "aaaa"):
            self.assertEqual(exchanged(text, len(text)), [])

    def test_all_short_texts(self):
        for width, most in ((1, 5), (2, 6), (3, 6), (4, 6)):
            for length in range(width, most + 1):
                for text in all_texts(length):
                    told = exchanged(text, width)
                    self.assertEqual(told, plain_steps_off(text, width))
                    self.assertNotIn(text, told)
                    self.assertEqual(told, sorted(set(told)))

    def test_long_texts(self):
        for width in WIDTHS:
            for text in LONG_TEXTS[width]:
                self.assertEqual(exchanged(text, width), plain_steps_off(text, width))

    def test_the_view_stays(self):
        for width in WIDTHS:
            for text in LONG_TEXTS[width]:
                for other in exchanged(text, width):
                    self.assertEqual(plain_view(other, width), plain_view(text, width))
                    self.assertIn(text, exchanged(other, width))

    def test_changed_lists_change_nothing(self):
        told = exchanged("abc", 1)
        told.clear()
        told.append("abc")
        self.assertEqual(exchanged("abc", 1), ["acb", "bac", "bca", "cab", "cba"])
        exchanged("a", 1).append("a")
        self.assertEqual(exchanged("a", 1), [])
        self.assertIs(type(exchanged("a", 1)), list)


class Roads(unittest.TestCase):
    def test_a_text_and_itself(self):
        for text, width in (("a", 1), ("abc", 1), ("aba", 2), ("aabaa", 3), ("abcabcabcabc", 4), ("abcabcabc", 1)):
            self.assertEqual(road(text, text, width), [text])
            self.assertEqual(steps(text, text, width), 0)

    def test_one_step(self):
        self.assertEqual(road("ab", "ba", 1), ["ab", "ba"])
        self.assertEqual(road("aba", "bab", 2), ["aba", "bab"])
        self.assertEqual(road("abaac", "aabac", 2), ["abaac", "aabac"])
        self.assertEqual(steps("aaabaaa", "baaabaa", 4), 1)

    def test_several_steps(self):
        self.assertEqual(steps("abcabcabc", "cbacbacba", 1), 3)
        way = road("abcabcabc", "cbacbacba", 1)
        self.assertEqual(len(way), 4)
        for one, other in zip(way, way[1:]):
            self.assertIn(other, exchanged(one, 1))

    def check_roads(self, width, having, step):
        for other in having[::step]:
            far = plain_distances(other, width)
            self.assertEqual(sorted(far), having)
            for one in having[::step]:
                wanted = min(plain_roads(one, other, width, far))
                self.assertEqual(road(one, other, width), wanted)
                self.assertEqual(steps(one, other, width), far[one])
                self.assertEqual(steps(other, one, width), far[one])

    def test_all_short_texts(self):
        for width, having in classes(((1, 4), (2, 6), (3, 7), (4, 7))):
            if len(having) > 1:
                self.check_roads(width, having, 1)

    def test_long_texts(self):
        several = 0
        for width in (2, 3, 4):
            for text in LONG_TEXTS[width]:
                having = texts(plain_view(text, width))
                self.check_roads(width, having, max(1, len(having) // 6))
                several += len(having) > 1
        self.assertGreater(several, 5)

    def test_width_1(self):
        for text in ("aabbc", "aaabbb", "abcab"):
            having = texts(plain_view(text, 1))
            self.check_roads(1, having, 4)

    def test_of_several_roads_the_least(self):
        far = plain_distances("cba" * 2, 1)
        ways = plain_roads("aabbcc", "cbacba", 1, far)
        self.assertGreater(len(ways), 1)
        self.assertEqual(road("aabbcc", "cbacba", 1), min(ways))

    def test_nine_letters_at_width_1(self):
        started = time.perf_counter()
        for one, other in (("abcabcabc", "cbacbacba"), ("aaabbbccc", "acbacbacb"), ("cccbbbaaa", "abcabcabc"),
                           ("aabbccabc", "cabcbabca"), ("aaaabbbcc", "cbabaabac")):
            way = road(one, other, 1)
            self.assertEqual([way[0], way[-1]], [one, other])
            self.assertEqual(steps(one, other, 1), len(way) - 1)
            self.assertEqual(steps(other, one, 1), len(way) - 1)
            for ahead, text in zip(way, way[1:]):
                self.assertIn(text, exchanged(ahead, 1))
        self.assertLess(time.perf_counter() - started, 20)

    def test_kinds_and_new_lists(self):
        self.assertIs(type(steps("ab", "ba", 1)), int)
        told = road("ab", "ba", 1)
        self.assertIs(type(told), list)
        told.reverse()
        told.append("c")
        self.assertEqual(road("ab", "ba", 1), ["ab", "ba"])
        road("ab", "ab", 1).clear()
        self.assertEqual(road("ab", "ab", 1), ["ab"])

    def test_unlike_just_where_the_views_are_unlike(self):
        for width in WIDTHS:
            for one in all_texts(4)[::2]:
                for other in all_texts(4)[::3]:
                    if plain_view(one, width) == plain_view(other, width):
                        self.assertEqual(road(one, other, width)[-1], other)
                    else:
                        for asking in (road, steps):
                            with self.assertRaises(Unlike):
                                asking(one, other, width)
        for one, other, width in (("a", "aa", 1), ("abab", "ab", 2), ("aaabaaabaaab", "aaabaaabaaac", 4), ("aaab", "aab", 2)):
            for asking in (road, steps):
                with self.assertRaises(Unlike):
                    asking(one, other, width)


class Farthest(unittest.TestCase):
    def test_no_other_text(self):
        for text, width in (("a", 1), ("bbb", 1), ("abc", 2), ("abaa", 3), ("abac", 4), ("cccccccccccc", 4)):
            self.assertEqual(farthest(text, width), (0, text))

    def test_ordinary_texts(self):
        self.assertEqual(farthest("ab", 1), (1, "ba"))
        self.assertEqual(farthest("abc", 1), (1, "acb"))
        self.assertEqual(farthest("cba", 1), (1, "abc"))
        self.assertEqual(farthest("bab", 2), (1, "aba"))
        self.assertEqual(farthest("aaabaaa", 4), (1, "aabaaab"))

    def check_farthest(self, text, width):
        far = plain_distances(text, width)
        most = max(far.values())
        self.assertEqual(farthest(text, width), (most, min(one for one in far if far[one] == most)))
        return most

    def test_all_short_texts(self):
        for width, having in classes(((1, 4), (2, 6), (3, 7), (4, 7))):
            for text in having:
                self.check_farthest(text, width)

    def test_long_texts(self):
        found = set()
        for width in WIDTHS:
            for text in LONG_TEXTS[width]:
                found.add(self.check_farthest(text, width))
        for text in ("abcabc", "aabbcc", "aababb", "cabbac"):
            found.add(self.check_farthest(text, 1))
        self.assertTrue({0, 1, 2} <= found)

    def test_nine_letters_at_width_1(self):
        started = time.perf_counter()
        for text in ("abcabcabc", "aaabbbccc", "aaaabbbcc"):
            number, other = farthest(text, 1)
            self.assertEqual(number, 3)
            self.assertEqual(steps(text, other, 1), number)
            near = set(exchanged(text, 1))
            for one in near.copy():
                near |= set(exchanged(one, 1))
            left = [one for one in twins(text, 1) if one not in near]
            self.assertEqual(other, min(left))
        self.assertLess(time.perf_counter() - started, 30)

    def test_kinds(self):
        for text in ("ab", "aa"):
            told = farthest(text, 1)
            self.assertIs(type(told), tuple)
            self.assertIs(type(told[0]), int)
            self.assertIs(type(told[1]), str)


class Refusals(unittest.TestCase):
    def test_of_one_text(self):
        for asking in (exchanged, farthest):
            for thing in no_texts():
                for width in (1, 0, None, True):
                    with self.assertRaises(NoText):
                        asking(thing, width)
            for thing in no_widths():
                for text in ("ab", "a", "a" * 12):
                    with self.assertRaises(NoWidth):
                        asking(text, thing)
            for text, width in (("a", 2), ("abc", 4), ("a" * 10, 1), ("a" * 11, 2), ("a" * 12, 3)):
                with self.assertRaises(NoView):
                    asking(text, width)

    def test_of_two_texts(self):
        for asking in (road, steps):
            for thing in no_texts():
                with self.assertRaises(NoText):
                    asking(thing, "abc", 2)
                with self.assertRaises(NoText):
                    asking("abc", thing, 2)
            for thing in no_widths():
                with self.assertRaises(NoWidth):
                    asking("abc", "cab", thing)
            for one, other in (("a", "ab"), ("ab", "a"), ("a" * 11, "ab"), ("ab", "a" * 11), ("a", "a"), ("a" * 11, "a" * 11)):
                with self.assertRaises(NoView):
                    asking(one, other, 2)

    def test_the_first_texts_refusals_come_first(self):
        for asking in (road, steps):
            for refusal, one, other, width in (
                    (NoText, "", "abc", 0), (NoWidth, "abc", "", 0), (NoWidth, "a", None, True), (NoView, "a", "", 2),
                    (NoView, "a" * 10, None, 1), (NoText, "ab", "", 2), (NoText, None, "a", 2), (NoView, "ab", "a", 2)):
                with self.assertRaises(refusal):
                    asking(one, other, width)

    def test_what_is_refused_is_not_changed(self):
        for thing in (["a", "b"], {"a": 1}, {"a"}, [["a"]], bytearray(b"ab")):
            kept = copy.deepcopy(thing)
            for asking in (exchanged, farthest):
                with self.assertRaises(NoText):
                    asking(thing, 1)
                with self.assertRaises(NoWidth):
                    asking("abc", thing)
            for asking in (road, steps):
                with self.assertRaises(NoText):
                    asking("abc", thing, 1)
            self.assertEqual(thing, kept)


if __name__ == "__main__":
    unittest.main()
