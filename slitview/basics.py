"""What texts, widths, windows and views are: shared by the other files."""

from slitview.errors import NoText, NoView, NoWidth

LETTERS = "abc"
MOST_LETTERS = 12
MOST_WINDOWS = 9
WIDEST = 4


def has_known_letters(text):
    return all([letter in LETTERS for letter in text])


def is_text(thing):
    return isinstance(thing, str) and 1 <= len(thing) <= MOST_LETTERS and has_known_letters(thing)


def is_width(thing):
    # True and False pass as int in Python, but are no whole numbers here.
    return isinstance(thing, int) and not isinstance(thing, bool) and 1 <= thing <= WIDEST


def is_window(thing, width):
    return isinstance(thing, str) and len(thing) == width and has_known_letters(thing)


def are_windows(thing, width):
    if not isinstance(thing, tuple) or not 1 <= len(thing) <= MOST_WINDOWS:
        return False
    # Things that are no texts must not reach the sorting, which could fail on them.
    if not all([is_window(window, width) for window in thing]):
        return False
    return list(thing) == sorted(thing)


def is_view(thing):
    if not isinstance(thing, tuple) or len(thing) != 2:
        return False
    return is_width(thing[0]) and are_windows(thing[1], thing[0])


# The errors' words never show what was refused: to show a thing of any kind may itself fail.


def check_text(thing):
    if not is_text(thing):
        raise NoText("a text has 1 to 12 letters a, b, c")


def check_width(thing):
    if not is_width(thing):
        raise NoWidth("a width is a whole number from 1 to 4")


def check_view(thing):
    if not is_view(thing):
        raise NoView("a view is a tuple of a width and a rising tuple of 1 to 9 windows")


def pieces(text, length):
    return [text[place:place + length] for place in range(len(text) - length + 1)]


def view_of(width, windows):
    if not 1 <= len(windows) <= MOST_WINDOWS:
        raise NoView("a view has 1 to 9 windows")
    return (width, tuple(sorted(windows)))


def text_view(text, width):
    check_text(text)
    check_width(width)
    return view_of(width, pieces(text, width))


def unrolled(ring, width):
    # A ring may be shorter than a window, so it may have to come round more than once.
    return (ring * width)[:len(ring) + width - 1]
