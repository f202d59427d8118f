"""Views read backward, and with other letters."""

from slitview.basics import LETTERS, check_view, view_of
from slitview.errors import NoLetters


def mirrored(view):
    check_view(view)
    return view_of(view[0], [window[::-1] for window in view[1]])


def check_letters(thing):
    if not isinstance(thing, str) or sorted(thing) != list(LETTERS):
        raise NoLetters("the letters are a text of a, b, c, each once, in any order")


def with_letters(window, letters):
    return "".join([letters[LETTERS.index(letter)] for letter in window])


def renamed(view, letters):
    check_view(view)
    check_letters(letters)
    return view_of(view[0], [with_letters(window, letters) for window in view[1]])
