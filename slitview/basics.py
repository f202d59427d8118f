"""What texts, widths, windows and views are: shared by the other files."""

from slitview.errors import NoText, NoView, NoWidth, NoWindow

LETTERS = "abc"
POINT = "."
MOST_LETTERS = 12
MOST_LETTERS_AROUND = 60
MOST_WINDOWS = 9
MOST_POINTS = 6
WIDEST = 4


def has_only(text, signs):
    return all([sign in signs for sign in text])


def is_whole_number(thing):
    # True and False pass as int in Python, but are no whole numbers here.
    return isinstance(thing, int) and not isinstance(thing, bool)


def is_text_up_to(thing, most):
    return isinstance(thing, str) and 1 <= len(thing) <= most and has_only(thing, LETTERS)


def is_width(thing):
    return is_whole_number(thing) and 1 <= thing <= WIDEST


def is_window(thing, width, signs):
    return isinstance(thing, str) and len(thing) == width and has_only(thing, signs)


def are_windows(thing, width, signs):
    if not isinstance(thing, tuple) or not 1 <= len(thing) <= MOST_WINDOWS:
        return False
    # Things that are no texts must not reach the sorting, which could fail on them.
    if not all([is_window(window, width, signs) for window in thing]):
        return False
    return list(thing) == sorted(thing)


def is_view_with(thing, signs):
    if not isinstance(thing, tuple) or len(thing) != 2:
        return False
    return is_width(thing[0]) and are_windows(thing[1], thing[0], signs)


def is_view(thing):
    return is_view_with(thing, LETTERS)


def is_blurred_view(thing):
    return is_view_with(thing, POINT + LETTERS) and "".join(thing[1]).count(POINT) <= MOST_POINTS


# The errors' words never show what was refused: to show a thing of any kind may itself fail.


def check_text(thing):
    if not is_text_up_to(thing, MOST_LETTERS):
        raise NoText("a text has 1 to 12 letters a, b, c")


def check_text_around(thing):
    if not is_text_up_to(thing, MOST_LETTERS_AROUND):
        raise NoText("a text that has a view within it has 1 to 60 letters a, b, c")


def check_width(thing):
    if not is_width(thing):
        raise NoWidth("a width is a whole number from 1 to 4")


def check_window(thing, width):
    if not is_window(thing, width, LETTERS):
        raise NoWindow("a window has as many letters a, b, c as the slit is wide")


def check_view(thing):
    if not is_view(thing):
        raise NoView("a view is a tuple of a width and a rising tuple of 1 to 9 windows")


def check_blurred_view(thing):
    if not is_blurred_view(thing):
        raise NoView("a blurred view is a view of whose letters up to 6 may be points")


def pieces(text, length):
    return [text[place:place + length] for place in range(len(text) - length + 1)]


def view_of(width, windows):
    if not 1 <= len(windows) <= MOST_WINDOWS:
        raise NoView("a view has 1 to 9 windows")
    return (width, tuple(sorted(windows)))


def text_view(text, width):
    check_text(text)
    check_width(width)
    return view_of(width, pieces(text, width))


def unrolled(ring, width):
    # A ring may be shorter than a window, so it may have to come round more than once.
    return (ring * width)[:len(ring) + width - 1]


# Signs and letters are taken in rising order, so the windows come rising.
def windows_that_fit(blurred_window):
    found = [""]
    for sign in blurred_window:
        letters = LETTERS if sign == POINT else sign
        longer = []
        for start in found:
            longer.extend([start + letter for letter in letters])
        found = longer
    return found
