import copy
import unittest

from slitview.errors import Full, Never, NoLetters, NoPlace, Nothing, NoView
from slitview.fitting import texts
from slitview.seeking import Seeker

from models import BLURRED_VIEWS, Sullen, WIDTHS, all_views, endless, no_views, odd_things, plain_view, texts_by_view

TWO = (2, ("ab", "ba"))
SIX = (1, ("a", "b", "c"))
FIFTEEN = (1, ("a",) * 4 + ("b",) * 2)
SIXTEEN = plain_view("bbbcbcccbb", 3)

SOME_VIEWS = (
    (1, ("b",)), TWO, SIX, FIFTEEN, (1, ("a", "a", "b", "c")), (1, ("a",) * 8 + ("c",)), (1, ("a", "a", "b", "b")),
    plain_view("aabaa", 3), plain_view("abacabacab", 3), plain_view("aaabaaacaaab", 4), plain_view("cabbabcabb", 3),
    plain_view("abbcbb", 2), plain_view("aababbaab", 3), plain_view("abcacab", 2), SIXTEEN,
)


def plain_needed(left):
    """Through all ways to ask, but for questions that all texts answer alike."""
    if len(left) == 1:
        return 0
    return min(plain_needed_by(left, place) for place in range(len(left[0])) if len({text[place] for text in left}) > 1)


def plain_needed_by(left, place):
    return 1 + max(plain_needed([text for text in left if text[place] == letter]) for letter in {text[place] for text in left})


def told_of(seeker):
    return seeker.left(), seeker.needed(), seeker.best(), seeker.heard()


class Making(unittest.TestCase):
    def test_ordinary_views(self):
        for view in SOME_VIEWS:
            seeker = Seeker(view)
            self.assertEqual(seeker.left(), texts(view))
            self.assertEqual(seeker.heard(), [])

    def test_what_is_no_view(self):
        for thing in no_views():
            with self.assertRaises(NoView):
                Seeker(thing)
        for thing in BLURRED_VIEWS:
            with self.assertRaises(NoView):
                Seeker(thing)

    def test_never(self):
        for width, count in ((2, 3), (3, 2), (4, 2)):
            having = texts_by_view(count + width - 1, width)
            for view in all_views(width, count):
                if view in having:
                    self.assertEqual(Seeker(view).left(), having[view])
                else:
                    with self.assertRaises(Never):
                        Seeker(view)

    def test_sixteen_texts_and_more(self):
        numbers = set()
        for width, length in ((1, 5), (1, 6), (1, 7), (2, 8), (2, 9), (3, 10)):
            for view, having in texts_by_view(length, width).items():
                if len(having) > 16:
                    with self.assertRaises(Full):
                        Seeker(view)
                elif len(having) > 12:
                    self.assertEqual(Seeker(view).left(), having)
                numbers.add(len(having))
        self.assertTrue({15, 16, 18} <= numbers)

    def test_no_view_ahead(self):
        with self.assertRaises(NoView):
            Seeker((2, ("bb", "aa")))
        with self.assertRaises(NoView):
            Seeker((1, tuple("aabbccabc")))
        with self.assertRaises(Full):
            Seeker((1, tuple("aaabbbccc")))

    def test_what_is_refused_is_not_changed(self):
        for thing in ([2, ["ba", "ab"]], {2: ["ab"]}, (2, ["ba", "ab"]), (2, [["ab"]])):
            kept = copy.deepcopy(thing)
            with self.assertRaises(NoView):
                Seeker(thing)
            self.assertEqual(thing, kept)


class Needed(unittest.TestCase):
    def test_one_text(self):
        for view in ((1, ("b",)), (2, ("ab", "bc")), (4, ("cccc",) * 9)):
            seeker = Seeker(view)
            self.assertEqual(seeker.needed(), 0)
            self.assertIsNone(seeker.best())

    def test_ordinary_views(self):
        for view, needed, best in ((TWO, 1, 0), (SIX, 2, 0), ((1, ("a", "b")), 1, 0), ((1, ("a",) * 8 + ("c",)), 8, 0)):
            seeker = Seeker(view)
            self.assertEqual((seeker.needed(), seeker.best()), (needed, best))

    def test_best_is_not_always_the_first_place(self):
        # Both texts begin with an a.
        seeker = Seeker((2, ("aa", "ab", "ac", "ba")))
        self.assertEqual(seeker.left(), ["aabac", "abaac"])
        self.assertEqual((seeker.needed(), seeker.best()), (1, 1))
        # All places part the texts, but not as well.
        found = 0
        for view, having in texts_by_view(7, 2).items():
            if 1 < len(having) <= 16:
                parting = [place for place in range(7) if len({text[place] for text in having}) > 1]
                found += Seeker(view).best() != parting[0]
        self.assertGreater(found, 0)

    def check(self, view):
        having = texts(view)
        seeker = Seeker(view)
        needed = plain_needed(having)
        self.assertEqual(seeker.needed(), needed)
        places = [place for place in range(len(having[0])) if len({text[place] for text in having}) > 1]
        if len(having) == 1:
            self.assertIsNone(seeker.best())
        else:
            self.assertEqual(seeker.best(), min(place for place in places if plain_needed_by(having, place) == needed))

    def test_against_plain_searches(self):
        for width, lengths in ((1, (1, 2, 3, 4)), (2, (3, 4, 5, 6, 7)), (3, (4, 5, 6, 7)), (4, (5, 6, 7))):
            for length in lengths:
                for view, having in texts_by_view(length, width).items():
                    if len(having) <= 8:
                        self.check(view)
        for view in ((1, ("a",) * 3 + ("b",) * 2), plain_view("abacabacab", 3), plain_view("aaabaaacaaab", 4)):
            self.check(view)

    def ask_on(self, seeker, text):
        count = 0
        while len(seeker.left()) > 1:
            ahead = seeker.needed()
            place = seeker.best()
            seeker.hear(place, text[place])
            self.assertLess(seeker.needed(), ahead)
            count += 1
        self.assertEqual(seeker.left(), [text])
        return count

    def test_asking_as_best_tells(self):
        for view in SOME_VIEWS:
            needed = Seeker(view).needed()
            counts = [self.ask_on(Seeker(view), text) for text in texts(view)]
            self.assertEqual(max(counts), needed)

    def test_from_now_on(self):
        seeker = Seeker(FIFTEEN)
        having = seeker.left()
        for place, letter in ((5, "a"), (2, "a"), (2, "a"), (0, "b")):
            seeker.hear(place, letter)
            having = [text for text in having if text[place] == letter]
            self.assertEqual(seeker.left(), having)
            self.assertEqual(seeker.needed(), plain_needed(having))
        seeker.hear(1, "b")
        self.assertEqual(told_of(seeker)[:3], (["bbaaaa"], 0, None))

    def test_asking_changes_nothing(self):
        seeker = Seeker(SIX)
        kept = told_of(seeker)
        self.assertEqual(told_of(seeker), kept)
        self.assertEqual(seeker.hear(0, "a"), 2)

    def test_kinds(self):
        seeker = Seeker(SIX)
        self.assertIs(type(seeker.left()), list)
        self.assertIs(type(seeker.needed()), int)
        self.assertIs(type(seeker.best()), int)
        self.assertIs(type(seeker.hear(0, "a")), int)
        self.assertIs(type(seeker.heard()), list)
        self.assertIs(type(seeker.heard()[0]), tuple)
        self.assertIs(type(seeker.undo()), tuple)


class Hear(unittest.TestCase):
    def test_ordinary_answers(self):
        seeker = Seeker(SIX)
        self.assertEqual(seeker.hear(0, "b"), 2)
        self.assertEqual(seeker.left(), ["bac", "bca"])
        self.assertEqual(seeker.hear(2, "a"), 1)
        self.assertEqual(seeker.left(), ["bca"])
        self.assertEqual(seeker.heard(), [(0, "b"), (2, "a")])

    def test_every_place_and_letter(self):
        for view in SOME_VIEWS:
            for place in range(len(texts(view)[0])):
                for letter in "abc":
                    seeker = Seeker(view)
                    wanted = [text for text in texts(view) if text[place] == letter]
                    if wanted:
                        self.assertEqual(seeker.hear(place, letter), len(wanted))
                        self.assertEqual(seeker.left(), wanted)
                        self.assertEqual(seeker.heard(), [(place, letter)])
                    else:
                        kept = told_of(seeker)
                        with self.assertRaises(Never):
                            seeker.hear(place, letter)
                        self.assertEqual(told_of(seeker), kept)

    def test_the_same_place_again(self):
        seeker = Seeker(SIX)
        for again in range(20):
            self.assertEqual(seeker.hear(0, "b"), 2)
        self.assertEqual(seeker.heard(), [(0, "b")] * 20)
        for letter in "ac":
            with self.assertRaises(Never):
                seeker.hear(0, letter)
        self.assertEqual(seeker.heard(), [(0, "b")] * 20)
        self.assertEqual(seeker.hear(1, "a"), 1)
        self.assertEqual(seeker.hear(1, "a"), 1)
        self.assertEqual(seeker.hear(2, "c"), 1)

    def test_answers_that_no_text_left_has(self):
        seeker = Seeker(SIX)
        seeker.hear(0, "b")
        kept = told_of(seeker)
        # Other texts with the view have these letters there, but none that is left.
        for place, letter in ((0, "a"), (1, "b"), (2, "b")):
            with self.assertRaises(Never):
                seeker.hear(place, letter)
            self.assertEqual(told_of(seeker), kept)
        self.assertEqual(seeker.undo(), (0, "b"))

    def refused(self, seeker, refusal, place, letter):
        kept = told_of(seeker)
        with self.assertRaises(refusal):
            seeker.hear(place, letter)
        self.assertEqual(told_of(seeker), kept)

    def no_places(self, length):
        forms = [-1, -length, -length - 1, length, length + 1, 12, 100, 10 ** 5000, -10 ** 5000, True, False, None, "0", "a",
                 "", [0], (0,), {0: 0}, Sullen(), endless(), [True], (1, "a")]
        return forms + [thing for thing in odd_things() if isinstance(thing, bool) or not isinstance(thing, int)]

    def test_places_that_are_none(self):
        for view in (TWO, SIX, (1, ("b",)), plain_view("aaabaaacaaab", 4)):
            seeker = Seeker(view)
            length = len(seeker.left()[0])
            for answers in ([], [(0, seeker.left()[0][0])]):
                for answer in answers:
                    seeker.hear(*answer)
                for place in self.no_places(length):
                    # NoPlace comes ahead of NoLetters and of Never.
                    for letter in ("a", "c", "d", None):
                        self.refused(seeker, NoPlace, place, letter)

    def test_letters_that_are_none(self):
        forms = ["ab", "abc", "bc", "aa", "d", "A", ".", " ", "", "a ", "\n", 0, 1, True, ["a"], ("a",), {"a": 1}, b"a", "\u0430"]
        for view in (TWO, SIX, (1, ("b",))):
            seeker = Seeker(view)
            for letter in forms + odd_things():
                for place in range(len(seeker.left()[0])):
                    self.refused(seeker, NoLetters, place, letter)

    def test_no_letters_ahead_of_never(self):
        seeker = Seeker((1, ("b", "b")))
        self.refused(seeker, NoLetters, 0, "d")
        self.refused(seeker, Never, 0, "a")
        self.refused(seeker, NoPlace, 2, "a")
        self.refused(seeker, NoPlace, 2, "b")
        self.assertEqual(seeker.hear(1, "b"), 1)

    def test_what_is_refused_is_not_changed(self):
        for thing in (["a"], {"a": ["b"]}, [[0]], bytearray(b"a")):
            kept = copy.deepcopy(thing)
            self.refused(Seeker(SIX), NoPlace, thing, "a")
            self.refused(Seeker(SIX), NoLetters, 0, thing)
            self.assertEqual(thing, kept)


class Undo(unittest.TestCase):
    def test_to_the_end(self):
        for view in SOME_VIEWS:
            seeker = Seeker(view)
            text = seeker.left()[-1]
            row = [told_of(seeker)]
            answers = [(place, text[place]) for place in range(len(text) - 1, -1, -1)]
            for place, letter in answers:
                seeker.hear(place, letter)
                row.append(told_of(seeker))
            self.assertEqual(seeker.heard(), answers)
            for answer in answers[::-1]:
                self.assertEqual(told_of(seeker), row.pop())
                self.assertEqual(seeker.undo(), answer)
            self.assertEqual(told_of(seeker), row.pop())
            for again in range(2):
                with self.assertRaises(Nothing):
                    seeker.undo()
                self.assertEqual(seeker.left(), texts(view))

    def test_a_new_seeker(self):
        seeker = Seeker(SIX)
        with self.assertRaises(Nothing):
            seeker.undo()
        self.assertEqual(seeker.hear(1, "c"), 2)

    def test_the_same_answer_twice(self):
        seeker = Seeker(SIX)
        seeker.hear(0, "b")
        seeker.hear(0, "b")
        self.assertEqual(seeker.undo(), (0, "b"))
        self.assertEqual(seeker.left(), ["bac", "bca"])
        self.assertEqual(seeker.undo(), (0, "b"))
        self.assertEqual(len(seeker.left()), 6)

    def test_another_answer_behind_it(self):
        seeker = Seeker(SIX)
        seeker.hear(0, "b")
        seeker.undo()
        self.assertEqual(seeker.hear(0, "c"), 2)
        self.assertEqual(seeker.left(), ["cab", "cba"])
        self.assertEqual(seeker.heard(), [(0, "c")])

    def test_refused_answers_are_not_taken_back(self):
        seeker = Seeker(SIX)
        seeker.hear(0, "b")
        for refusal, place, letter in ((NoPlace, 3, "a"), (NoLetters, 0, "d"), (Never, 0, "c")):
            with self.assertRaises(refusal):
                seeker.hear(place, letter)
        self.assertEqual(seeker.undo(), (0, "b"))
        with self.assertRaises(Nothing):
            seeker.undo()


class Apart(unittest.TestCase):
    def test_two_seekers_do_not_change_each_other(self):
        one, other = Seeker(SIX), Seeker(SIX)
        kept = told_of(other)
        one.hear(0, "a")
        self.assertEqual(told_of(other), kept)
        other.hear(0, "c")
        self.assertEqual(one.heard(), [(0, "a")])
        self.assertEqual(one.undo(), (0, "a"))
        self.assertEqual(other.left(), ["cab", "cba"])
        self.assertEqual(Seeker(SIX).heard(), [])

    def test_changed_lists_change_nothing(self):
        seeker = Seeker(SIX)
        seeker.hear(0, "b")
        kept = copy.deepcopy(told_of(seeker))
        for asking in (seeker.left, seeker.heard):
            told = asking()
            told.append(told[0])
            told[0] = None
            asking().clear()
        self.assertEqual(told_of(seeker), kept)
        self.assertEqual(seeker.undo(), (0, "b"))
        seeker.left().clear()
        self.assertEqual(seeker.hear(0, "c"), 2)

    def test_told_lists_do_not_follow_the_seeker(self):
        seeker = Seeker(SIX)
        left, heard = seeker.left(), seeker.heard()
        seeker.hear(0, "b")
        self.assertEqual((len(left), heard), (6, []))

    def test_the_same_calls_give_the_same_answers(self):
        rows = []
        for view in (SIX, tuple([1, tuple(["a", "b", "c"])])):
            seeker = Seeker(view)
            row = [seeker.hear(0, "b"), seeker.undo(), seeker.hear(1, "b"), seeker.hear(0, "c")]
            rows.append((row, told_of(seeker)))
        self.assertEqual(rows[0], rows[1])


class EveryWidth(unittest.TestCase):
    def test_twelve_letters(self):
        for width in WIDTHS:
            for text in ("abcabcabcabc", "aaabaaacaaab", "cccccccccccc", "abababababab"):
                view = plain_view(text[:8 + width], width)
                if len(texts(view)) <= 16:
                    seeker = Seeker(view)
                    for place in range(8 + width):
                        seeker.hear(place, text[place])
                    self.assertEqual(seeker.left(), [text[:8 + width]])
                    with self.assertRaises(NoPlace):
                        seeker.hear(8 + width, "a")


if __name__ == "__main__":
    unittest.main()
