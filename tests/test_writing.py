import copy
import unittest
from itertools import product

from slitview.errors import BadText, Full, Nothing, NoView
from slitview.slits import Slit
from slitview.writing import read, slit_of, slit_text, written

from models import BLURRED_VIEWS, Sullen, WIDTHS, all_texts, all_views, endless, no_blurred_views, odd_things, plain_view

WRITTEN = (
    ((1, ("b",)), "1: b"), ((1, ("a", "a", "c")), "1: a a c"), ((2, ("ab", "bc", "ca", "ca")), "2: ab bc ca ca"),
    ((3, ("abc",)), "3: abc"), ((4, ("abca",) * 9), "4:" + " abca" * 9), ((2, ("aa", "bb")), "2: aa bb"),
    ((1, (".",)), "1: ."), ((2, (".b", "a.", "ab")), "2: .b a. ab"), ((4, ("....", "..aa", "aaab")), "4: .... ..aa aaab"),
    ((1, (".",) * 6 + ("a", "b", "c")), "1: . . . . . . a b c"),
)

# Each of these writes neither a view nor a slit, whichever sign stands in the place of the question mark.
BAD_TEXTS = [
    "", " ", "?", "1", "2", "1 ", "1 a", "a", "abc", "? a", " 1? a", "1? a ", "1?  a", "1?a", "1 ? a", "1? a\n", "\n1? a", "1?\ta",
    "1?\na", "1? a\tb", "1?? a", "01? a", "+1? a", "-1? a", "1.0? a", "0?", "0? a", "5? aaaaa", "9? a", "11? a", "12? ab", "a? a",
    "\u0661? a", "\u00b9? a", "\uff11? a", "True? a", "1? aa", "2? a", "2? abc", "3? ab", "4? abc", "4? abcab", "2? ab b", "2? ab abc",
    "1? d", "1? A", "1? 1", "1? ?", "2? ad", "2? a d", "2? ab, bc", "2? ab,bc", "1? \u0430", "1? \u00e4", "1? a a  b", "1? a a b ",
    "1? a? b", "1? a 1? b", "1? abc", "(1, ('a',))", "1? 'a'", "1?\u00a0a", "1?\u2003a", "1? a\u00a0b", "1\u200b? a", "1? a\r", "1? a\x00",
]


def bad_texts(mark):
    return [text.replace("?", mark) for text in BAD_TEXTS]


def views():
    for width, most in ((1, 4), (2, 3), (3, 2), (4, 1)):
        for count in range(1, most + 1):
            yield from all_views(width, count)
    for width in WIDTHS:
        for text in ("abcabcabcabc", "aaabaaacaaab", "cbcbcbabcbcb", "cccccccccccc"):
            yield plain_view(text[:8 + width], width)
    yield from BLURRED_VIEWS


def slit_with(width, windows):
    slit = Slit(width)
    for window in windows:
        slit.come(window)
    return slit


def told_of(slit):
    return slit.windows(), slit.told(), slit.fitting()


class Written(unittest.TestCase):
    def test_ordinary_views(self):
        for view, text in WRITTEN:
            self.assertEqual(written(view), text)
            self.assertEqual(read(text), view)

    def test_all_views(self):
        for view in views():
            text = written(view)
            self.assertIs(type(text), str)
            self.assertEqual(text, "%d: %s" % (view[0], " ".join(view[1])))
            self.assertEqual(read(text), view)
            self.assertEqual(written(read(text)), text)

    def test_up_to_six_points(self):
        for count in range(1, 7):
            for view in ((1, (".",) * count + ("a",)), (2, (".c",) * count + ("bc",)), (2, ("a.",) * count), (4, ("ab.c",) * count)):
                self.assertEqual(read(written(view)), view)

    def test_seven_points(self):
        for view in ((1, (".",) * 7), (2, ("..", "..", "..", ".a")), (4, ("....", "...a")), (3, ("...", "...", "ab.")), (4, ("....",) * 9)):
            with self.assertRaises(NoView):
                written(view)
            with self.assertRaises(BadText):
                read("%d: %s" % (view[0], " ".join(view[1])))

    def test_what_is_no_view(self):
        for thing in no_blurred_views():
            with self.assertRaises(NoView):
                written(thing)

    def test_what_is_refused_is_not_changed(self):
        for thing in ([2, ["ba", "ab"]], {2: ["ab"]}, (2, ["ba", "ab"]), (2, [["ab"]]), ["2: ab"]):
            kept = copy.deepcopy(thing)
            with self.assertRaises(NoView):
                written(thing)
            for asking in (read, slit_of):
                with self.assertRaises(BadText):
                    asking(thing)
            self.assertEqual(thing, kept)


class Read(unittest.TestCase):
    def test_kinds(self):
        for text in ("1: a", "2: .b ab"):
            told = read(text)
            self.assertIs(type(told), tuple)
            self.assertIs(type(told[0]), int)
            self.assertIs(type(told[1]), tuple)

    def test_bad_texts(self):
        for text in bad_texts(":"):
            with self.subTest(text), self.assertRaises(BadText):
                read(text)

    def test_another_sign(self):
        for mark in ";,.=-!| a1":
            for text in ("1? a", "2? ab bc", "4? abca"):
                with self.assertRaises(BadText):
                    read(text.replace("?", mark))
        with self.assertRaises(BadText):
            read(slit_text(slit_with(2, ["ab", "bc"])))

    def test_no_windows_and_ten(self):
        for width in WIDTHS:
            for text in ("%d:" % width, "%d: " % width, "%d:  " % width):
                with self.assertRaises(BadText):
                    read(text)
            self.assertEqual(read("%d:" % width + (" " + "a" * width) * 9), (width, ("a" * width,) * 9))
            for count in (10, 11, 1000):
                with self.assertRaises(BadText):
                    read("%d:" % width + (" " + "a" * width) * count)

    def test_windows_out_of_order(self):
        for text in ("1: b a", "1: a c b", "2: ab ab aa", "1: a .", "2: aa .a", "4: aaab aaaa"):
            with self.assertRaises(BadText):
                read(text)

    def check_near(self, asking, writing, text, signs):
        """What is told of a text that is not much other than one that was written is written as that text, or refused."""
        near = {text[:place] + text[place + 1:] for place in range(len(text))}
        near |= {text[:place] + sign + text[place + 1:] for place in range(len(text)) for sign in signs}
        near |= {text[:place] + sign + text[place:] for place in range(len(text) + 1) for sign in signs}
        near |= {text[:place] + text[place + 1:place + 2] + text[place] + text[place + 2:] for place in range(len(text))}
        refused = 0
        for other in near:
            try:
                told = asking(other)
            except BadText:
                refused += 1
            else:
                self.assertEqual(writing(told), other)
        self.assertGreater(refused, len(text))

    def test_a_sign_left_out_put_in_or_exchanged(self):
        for view, text in WRITTEN:
            self.check_near(read, written, text, "abc.:; 125d")
        for windows in ([], ["ab"], ["ca", "ab", "ca"]):
            self.check_near(slit_of, slit_text, slit_text(slit_with(2, windows)), "abc.:; 125d")

    def test_just_the_texts_that_are_written(self):
        # Of all short texts of a few signs those are read that write a view.
        wanted = {written(view) for width in (1, 2) for view in all_views(width, 1)}
        wanted |= {written((width, windows)) for width, windows in ((1, (".",)), (2, ("..",)))}
        wanted |= {written((2, (sign + letter,))) for sign, letter in list(product(".", "abc")) + list(product("abc", "."))}
        found = set()
        for length in range(6):
            for signs in product("12: ab.", repeat=length):
                text = "".join(signs)
                try:
                    found.add(written(read(text)))
                    self.assertEqual(written(read(text)), text)
                except BadText:
                    pass
        self.assertEqual(found, {text for text in wanted if "c" not in text and len(text) < 6})

    def test_things_of_any_kind(self):
        forms = [1, (1, ("a",)), ("1: a",), ["1: a"], {"1: a": 1}, b"1: a", True, Sullen(), endless(), Slit(1), "1: a" * 1000]
        for thing in odd_things() + forms:
            for asking in (read, slit_of):
                with self.assertRaises(BadText):
                    asking(thing)


class SlitText(unittest.TestCase):
    def test_ordinary_slits(self):
        self.assertEqual(slit_text(slit_with(2, ["bc", "ab"])), "2; bc ab")
        self.assertEqual(slit_text(slit_with(1, ["b"])), "1; b")
        self.assertEqual(slit_text(slit_with(4, ["cccc"] * 9)), "4;" + " cccc" * 9)

    def test_no_window(self):
        for width in WIDTHS:
            self.assertEqual(slit_text(Slit(width)), "%d;" % width)
            slit = slit_of("%d;" % width)
            self.assertEqual(slit.windows(), [])
            self.assertEqual(slit.fitting(), all_texts(width))
            with self.assertRaises(Nothing):
                slit.undo()
            self.assertEqual(slit.come("b" * width), 1)

    def test_as_they_came(self):
        for windows in (["ca", "ab", "bc"], ["aa", "bb"], ["ab", "ab", "aa"], ["bb", "aa"], ["cc", "bb", "aa", "cc"]):
            self.assertEqual(slit_text(slit_with(2, windows)), "2; " + " ".join(windows))

    def test_some_taken_back(self):
        slit = slit_with(2, ["ca", "ab", "bc"])
        slit.undo()
        self.assertEqual(slit_text(slit), "2; ca ab")
        slit.come("aa")
        self.assertEqual(slit_text(slit), "2; ca ab aa")
        for step in range(3):
            slit.undo()
        self.assertEqual(slit_text(slit), "2;")

    def test_writing_changes_nothing(self):
        slit = slit_with(2, ["ca", "ab", "bc"])
        kept = told_of(slit)
        self.assertEqual(slit_text(slit), slit_text(slit))
        self.assertIs(type(slit_text(slit)), str)
        self.assertEqual(told_of(slit), kept)


class SlitOf(unittest.TestCase):
    def rows(self):
        yield from ((width, list(windows)) for width, count in ((1, 3), (2, 2), (3, 1), (4, 1))
                    for windows in product(all_texts(width), repeat=count))
        for width in WIDTHS:
            for text in ("abcabcabcabc", "cbcbcbabcbcb", "cccccccccccc"):
                windows = list(plain_view(text[:8 + width], width)[1])
                yield width, windows[::-1]
                yield width, windows[1::2] + windows[::2]
                yield width, windows[:5] + ["c" * width]

    def test_the_windows_as_they_came(self):
        for width, windows in self.rows():
            first = slit_with(width, windows)
            slit = slit_of(slit_text(first))
            self.assertEqual(slit.windows(), windows)
            self.assertEqual(slit_text(slit), slit_text(first))
            self.assertIsInstance(slit, Slit)

    def test_it_goes_on_and_back_as_that_one(self):
        for width, windows in list(self.rows())[::5] + [(2, ["ca", "ab", "bc"]), (1, list("abcabcabc"))]:
            first = slit_with(width, windows)
            first.undo()
            slit = slit_of(slit_text(first))
            self.assertEqual(told_of(slit), told_of(first))
            for window in ("a" * width, "abca"[:width]):
                if len(first.windows()) < 9:
                    self.assertEqual(slit.come(window), first.come(window))
                else:
                    for one in (slit, first):
                        with self.assertRaises(Full):
                            one.come(window)
                self.assertEqual(told_of(slit), told_of(first))
            while first.windows():
                self.assertEqual(slit.undo(), first.undo())
                self.assertEqual(told_of(slit), told_of(first))
            with self.assertRaises(Nothing):
                slit.undo()

    def test_neither_changes_the_other(self):
        first = slit_with(2, ["ca", "ab"])
        text = slit_text(first)
        slit, other = slit_of(text), slit_of(text)
        slit.come("bc")
        self.assertEqual(first.windows(), ["ca", "ab"])
        first.undo()
        first.undo()
        self.assertEqual(slit.windows(), ["ca", "ab", "bc"])
        self.assertEqual(other.windows(), ["ca", "ab"])
        self.assertEqual(slit_text(slit), "2; ca ab bc")
        self.assertEqual(slit_text(first), "2;")

    def test_bad_texts(self):
        for text in bad_texts(";"):
            with self.subTest(text), self.assertRaises(BadText):
                slit_of(text)

    def test_points(self):
        for text in ("1; .", "2; .a", "2; a.", "2; ab .b", "4; ...."):
            with self.assertRaises(BadText):
                slit_of(text)

    def test_another_sign(self):
        for mark in ":,.=-!| a1":
            for text in ("1? a", "2?", "2? ab bc", "4? abca"):
                with self.assertRaises(BadText):
                    slit_of(text.replace("?", mark))
        with self.assertRaises(BadText):
            slit_of(written((2, ("ab", "bc"))))

    def test_nine_windows_and_ten(self):
        for width in WIDTHS:
            for window in ("a" * width, "abca"[:width]):
                self.assertEqual(slit_of("%d;" % width + (" " + window) * 9).windows(), [window] * 9)
                with self.assertRaises(Full):
                    slit_of("%d;" % width + (" " + window) * 9).come(window)
                for count in (10, 11, 1000):
                    with self.assertRaises(BadText):
                        slit_of("%d;" % width + (" " + window) * count)


if __name__ == "__main__":
    unittest.main()
