import copy
import unittest
from itertools import combinations, product

from slitview.bars import balance, bar, is_bar
from slitview.errors import NoView
from slitview.fitting import texts

from models import BLURRED_VIEWS, Sullen, WIDTHS, all_texts, all_views, endless, no_views, odd_things, plain_balance
from models import plain_is_apart, plain_some_text, plain_view, texts_by_view

MORE = (2, ("ab", "ab"))
TWO = (2, ("ab", "cb"))
APART = (2, ("aa", "bb", "bb"))
SEVERAL = (3, ("aba", "abb", "abc", "cba", "ccc", "ccc"))
HAD = (2, ("ab", "ba"))
KINDS = ("more", "two", "apart")


def views_of_few_windows():
    for width, most in ((1, 5), (2, 4), (3, 3), (4, 2)):
        for count in range(1, most + 1):
            yield from all_views(width, count)


def views_of_nine_windows(step):
    """Some views of nine windows, most of which no text has."""
    for width in WIDTHS:
        windows = all_texts(width)
        for number in range(0, 3000, step):
            chosen = [windows[(number * number + number * place + place ** 3) % len(windows)] for place in range(9)]
            yield (width, tuple(sorted(chosen)))


def short_pieces(width):
    return [piece for length in range(width + 1) for piece in all_texts(length)]


class Balance(unittest.TestCase):
    def test_ordinary_views_at_each_width(self):
        self.assertEqual(balance((1, ("a", "b", "c"))), [])
        self.assertEqual(balance((2, ("ab", "bc"))), [("a", 1), ("c", -1)])
        self.assertEqual(balance((3, ("abc", "bca"))), [("ab", 1), ("ca", -1)])
        self.assertEqual(balance((4, ("abca", "caaa"))), [("aaa", -1), ("abc", 1), ("bca", -1), ("caa", 1)])

    def test_width_1_has_the_empty_piece_alone(self):
        for count in range(1, 6):
            for seen in all_views(1, count):
                self.assertEqual(balance(seen), [])

    def test_more_fewer_and_as_many(self):
        self.assertEqual(balance((2, ("ab", "ab", "ac"))), [("a", 3), ("b", -2), ("c", -1)])
        self.assertEqual(balance((2, ("ac", "bc", "cb", "cc"))), [("a", 1), ("c", -1)])
        self.assertEqual(balance((2, ("ab", "ba"))), [])
        self.assertEqual(balance((3, ("aaa", "aaa"))), [])
        self.assertEqual(balance((2, ("ab",) * 9)), [("a", 9), ("b", -9)])
        self.assertEqual(balance((4, ("aaab",) * 8 + ("aabc",))), [("aaa", 8), ("aab", -7), ("abc", -1)])

    def test_against_plain_counts(self):
        for seen in list(views_of_few_windows()) + list(views_of_nine_windows(7)):
            wanted = sorted((piece, number) for piece, number in plain_balance(seen).items() if number != 0)
            self.assertEqual(balance(seen), wanted)
            told = [piece for piece, number in balance(seen)]
            self.assertEqual(told, sorted(set(told)))
            self.assertEqual(sum(number for piece, number in balance(seen)), 0)

    def test_kinds(self):
        told = balance((2, ("ab", "bc")))
        self.assertIs(type(told), list)
        for one in told:
            self.assertIs(type(one), tuple)
            self.assertIs(type(one[0]), str)
            self.assertIs(type(one[1]), int)

    def test_changed_lists_change_nothing(self):
        told = balance((2, ("ab", "bc")))
        told[0] = None
        told.clear()
        self.assertEqual(balance((2, ("ab", "bc"))), [("a", 1), ("c", -1)])
        balance(HAD).append(("a", 1))
        self.assertEqual(balance(HAD), [])
        self.assertEqual(balance((1, ("a",))), [])


class Bar(unittest.TestCase):
    def check_is_plainly_a_bar(self, seen, told):
        excess = plain_balance(seen)
        self.assertIs(type(told), tuple)
        if told[0] == "more":
            self.assertEqual(len(told), 2)
            self.assertGreaterEqual(excess[told[1]], 2)
        elif told[0] == "two":
            self.assertEqual(len(told), 3)
            self.assertNotEqual(told[1], told[2])
            self.assertGreaterEqual(min(excess[told[1]], excess[told[2]]), 1)
        else:
            self.assertEqual(told[0], "apart")
            self.assertEqual(len(told), 2)
            self.assertIs(type(told[1]), tuple)
            self.assertEqual(list(told[1]), sorted(set(told[1])))
            self.assertTrue(set(told[1]) < set(range(len(seen[1]))))
            self.assertTrue(plain_is_apart(seen, told[1]))

    def test_the_one_kind_that_there_is(self):
        self.assertEqual(bar(MORE), ("more", "a"))
        self.assertEqual(set(bar(TWO)), {"two", "a", "c"})
        self.assertIn(bar(APART), [("apart", (0,)), ("apart", (1, 2))])
        self.assertEqual(bar((4, ("abcc", "abcc"))), ("more", "abc"))
        self.assertIn(bar((4, ("aaaa",) * 8 + ("cccc",))), [("apart", tuple(range(8))), ("apart", (8,))])
        self.assertIn(bar((2, ("ab", "ba", "cc"))), [("apart", (0, 1)), ("apart", (2,))])

    def test_none_where_some_text_has_it(self):
        self.assertIsNone(bar((1, ("a",))))
        self.assertIsNone(bar((1, ("a",) * 4 + ("c",) * 5)))
        self.assertIsNone(bar(HAD))
        self.assertIsNone(bar((2, ("ab", "bc"))))
        self.assertIsNone(bar((4, ("aaaa",) * 9)))
        for width in WIDTHS:
            for text in ("abcabcabc", "aaabaaaca", "cbacbbbba", "aaaabbbcc"):
                text = (text + "abc")[:8 + width]
                self.assertIsNone(bar(plain_view(text, width)))

    def test_every_view_of_few_windows(self):
        kinds = set()
        for width, most in ((1, 5), (2, 4), (3, 3), (4, 2)):
            for count in range(1, most + 1):
                having = texts_by_view(count + width - 1, width)
                for seen in all_views(width, count):
                    told = bar(seen)
                    if seen in having:
                        self.assertIsNone(told)
                    else:
                        self.check_is_plainly_a_bar(seen, told)
                        self.assertIs(is_bar(seen, told), True)
                        kinds.add(told[0])
        self.assertEqual(kinds, set(KINDS))

    def test_views_of_nine_windows(self):
        for seen in views_of_nine_windows(1):
            told = bar(seen)
            if plain_some_text(seen[1], seen[0]):
                self.assertIsNone(told)
            else:
                self.check_is_plainly_a_bar(seen, told)
                self.assertIs(is_bar(seen, told), True)

    def test_windows_that_all_but_hang_together(self):
        # Each of these is balanced, so that nothing but being apart can bar it.
        for one, other in (("aab", "c"), ("ab", "c"), ("aaab", "cc"), ("a", "bbc"), ("ab", "ccc")):
            for width in (2, 3, 4):
                windows = [(ring * 8)[place:place + width] for ring in (one, other) for place in range(len(ring))]
                seen = (width, tuple(sorted(windows)))
                self.assertEqual(balance(seen), [])
                self.assertEqual(texts(seen), [])
                self.check_is_plainly_a_bar(seen, bar(seen))

    def test_equal_views_have_equal_bars(self):
        for seen in (MORE, TWO, APART, SEVERAL, HAD):
            same = tuple([seen[0], tuple(["".join(list(window)) for window in seen[1]])])
            self.assertEqual(bar(seen), bar(same))
            self.assertEqual(bar(seen), bar(seen))


class IsBar(unittest.TestCase):
    def test_bars_of_each_kind(self):
        self.assertIs(is_bar(MORE, ("more", "a")), True)
        self.assertIs(is_bar(TWO, ("two", "a", "c")), True)
        self.assertIs(is_bar(TWO, ("two", "c", "a")), True)
        self.assertIs(is_bar(APART, ("apart", (0,))), True)
        self.assertIs(is_bar(APART, ("apart", (1, 2))), True)
        for thing in (("more", "ab"), ("two", "ab", "cb"), ("two", "cb", "ab"), ("apart", (4, 5)), ("apart", (0, 1, 2, 3))):
            self.assertIs(is_bar(SEVERAL, thing), True, thing)

    def test_three_parts_of_windows(self):
        seen = (2, ("aa", "bb", "cc"))
        for count in (1, 2):
            for places in combinations(range(3), count):
                self.assertIs(is_bar(seen, ("apart", places)), True)
        self.assertIs(is_bar(seen, ("apart", (0, 1, 2))), False)

    def test_pieces_that_are_none(self):
        for thing in (("more", "b"), ("more", "c"), ("more", ""), ("more", "ab"), ("more", "d"), ("more", "aa"),
                      ("more", "A"), ("more", "."), ("more", " a"), ("more", "a\n"), ("two", "a", "b"), ("two", "a", "c")):
            self.assertIs(is_bar(MORE, thing), False, thing)
        for thing in (("two", "a", "a"), ("two", "c", "c"), ("two", "a", "b"), ("two", "b", "a"), ("two", "a", ""),
                      ("two", "ab", "cb"), ("two", "a", "cb"), ("two", "a", "d"), ("more", "a"), ("more", "c")):
            self.assertIs(is_bar(TWO, thing), False, thing)
        # One piece that begins two windows more is not two pieces.
        self.assertIs(is_bar(MORE, ("two", "a", "a")), False)
        self.assertIs(is_bar((1, ("a", "b")), ("more", "")), False)
        self.assertIs(is_bar((1, ("a", "b")), ("two", "", "")), False)

    def test_places_that_are_none(self):
        huge = 10 ** 5000
        for places in ((), (0, 1, 2), (1,), (2,), (0, 1), (0, 2), (2, 1), (1, 1), (0, 0), (1, 2, 2), (1, 1, 2), (-1,), (-3,),
                       (-2, -1), (3,), (0, 3), (-1, 0), (1, 2, 3), (huge,), (-huge,), (0, huge), (False,), (True, 2),
                       (True,), (False, 0), (0, False), (1, True), [0], [1, 2], {0: 0}, {0}, frozenset((0,)), range(1),
                       range(1, 3), "0", "", "aa", ("0",), ("aa",), ("bb", "bb"), 0, 1, None, (None,), ((0,),), ([0],),
                       (0, None), (None, 0), (1, "2"), (Sullen(),), (0, Sullen()), Sullen(), (endless(),), endless(),
                       (1j,), (0, 1j), iter((0,)), True, False, tuple(range(1000)), (0,) * 1000):
            self.assertIs(is_bar(APART, ("apart", places)), False)

    def test_equal_windows_are_not_apart(self):
        seen = (2, ("aa", "aa"))
        self.assertIs(is_bar(seen, ("apart", (0,))), False)
        self.assertIs(is_bar(seen, ("apart", (1,))), False)
        self.assertIs(is_bar((1, ("a", "b")), ("apart", (0,))), False)
        self.assertIs(is_bar((1, ("a",)), ("apart", (0,))), False)

    def test_a_head_that_is_a_tail_outside(self):
        self.assertIs(is_bar((2, ("ab", "ca")), ("apart", (0,))), False)
        self.assertIs(is_bar((2, ("ab", "bc")), ("apart", (0,))), False)
        self.assertIs(is_bar((2, ("ab", "ac")), ("apart", (0,))), False)
        self.assertIs(is_bar((2, ("ab", "cb")), ("apart", (0,))), False)
        self.assertIs(is_bar((2, ("ab", "cc")), ("apart", (0,))), True)

    def test_other_kinds_and_forms(self):
        for seen, thing in ((MORE, ("more", "a")), (TWO, ("two", "a", "c")), (APART, ("apart", (0,)))):
            rest = thing[1:]
            forms = [list(thing), thing[:1], thing[:-1], thing + (None,), thing + ("a",), thing + thing, rest, rest + thing[:1]]
            forms += [(thing,), [thing], {thing[0]: rest}, dict.fromkeys(thing), set(thing), thing[0], rest[0], str(thing)]
            forms += [(word,) + rest for word in ("", "More", "MORE", "more ", " two", "bar", "apart\n", "mor", "aparts")]
            forms += [(word,) + rest for word in KINDS if word != thing[0]]
            forms += [(odd,) + rest for odd in odd_things()]
            forms += [(thing[0],) + rest[:-1] + (odd,) for odd in odd_things()]
            forms += [(thing[0], odd) + rest[1:] for odd in odd_things()]
            forms += [(thing[0].encode(),) + rest, ([thing[0]],) + rest, ((thing[0],),) + rest, (thing[0], rest)]
            for form in forms + odd_things():
                self.assertIs(is_bar(seen, form), False)
            self.assertIs(is_bar(seen, thing), True)

    def test_wrapped_pieces(self):
        for piece in (["a"], ("a",), {"a": 1}, b"a", {"a"}, Sullen(), None, True, False, 0, 1, endless()):
            self.assertIs(is_bar(MORE, ("more", piece)), False)
            self.assertIs(is_bar(TWO, ("two", "a", piece)), False)
            self.assertIs(is_bar(TWO, ("two", piece, "a")), False)

    def test_all_things_of_the_right_form(self):
        some = list(views_of_few_windows())[::17] + list(views_of_nine_windows(400)) + [MORE, TWO, APART, SEVERAL, HAD]
        for seen in some:
            excess = plain_balance(seen)
            pieces = short_pieces(min(seen[0], 2)) + sorted(excess)
            for one in pieces:
                self.assertIs(is_bar(seen, ("more", one)), excess.get(one, 0) >= 2)
                for other in sorted(excess):
                    wanted = one != other and excess.get(one, 0) > 0 and excess[other] > 0
                    self.assertIs(is_bar(seen, ("two", one, other)), wanted)
                    self.assertIs(is_bar(seen, ("two", other, one)), wanted)
            for chosen in product((False, True), repeat=len(seen[1])):
                places = tuple(place for place, taken in enumerate(chosen) if taken)
                self.assertIs(is_bar(seen, ("apart", places)), plain_is_apart(seen, places))

    def test_no_bar_where_some_text_has_it(self):
        for seen in (HAD, (1, ("a", "b", "c")), (3, ("aab", "aba", "baa")), (4, ("cccc", "cccc", "cccc"))):
            for one in short_pieces(seen[0]):
                self.assertIs(is_bar(seen, ("more", one)), False)
                for other in short_pieces(seen[0]):
                    self.assertIs(is_bar(seen, ("two", one, other)), False)
            for count in range(len(seen[1]) + 1):
                for places in combinations(range(len(seen[1])), count):
                    self.assertIs(is_bar(seen, ("apart", places)), False)
            self.assertIs(is_bar(seen, None), False)

    def test_what_was_asked_of_is_not_changed(self):
        for thing in (["more", "a"], ("apart", [1, 0]), {"more": ["a"]}, ("two", ["a"], ["c"])):
            kept = copy.deepcopy(thing)
            is_bar(APART, thing)
            self.assertEqual(thing, kept)


class Refusals(unittest.TestCase):
    def test_what_is_no_view(self):
        for thing in no_views():
            for asking in (balance, bar):
                with self.assertRaises(NoView):
                    asking(thing)
            for other in (("more", "a"), ("apart", (0,)), None, Sullen(), endless(), thing):
                with self.assertRaises(NoView):
                    is_bar(thing, other)

    def test_a_blurred_view_is_no_view(self):
        for thing in BLURRED_VIEWS:
            for asking in (balance, bar, lambda seen: is_bar(seen, ("more", "a"))):
                with self.assertRaises(NoView):
                    asking(thing)

    def test_what_is_refused_is_not_changed(self):
        for thing in ([2, ["ba", "ab"]], {2: ["ab"]}, (2, ["ba", "ab"]), (2, [["ab"]])):
            kept = copy.deepcopy(thing)
            for asking in (balance, bar, lambda seen: is_bar(seen, seen)):
                with self.assertRaises(NoView):
                    asking(thing)
            self.assertEqual(thing, kept)
        self.assertEqual(bar(MORE), ("more", "a"))


if __name__ == "__main__":
    unittest.main()
