"""Views and slits as texts, and read from them."""

from slitview.basics import LETTERS, MOST_WINDOWS, WIDEST
from slitview.basics import check_blurred_view, is_blurred_view, is_window
from slitview.errors import BadText
from slitview.slits import Slit

VIEW_MARK = ":"
SLIT_MARK = ";"


def line(width, mark, windows):
    return str(width) + mark + "".join([" " + window for window in windows])


# Whatever stands behind blanks is told as windows, whether it is any or not.
def width_and_windows(thing, mark):
    words = thing.split(" ") if isinstance(thing, str) else [""]
    for width in range(1, WIDEST + 1):
        if words[0] == line(width, mark, []):
            return (width, tuple(words[1:]))
    raise BadText("a view or a slit is written as its width, its sign, and its windows, a blank ahead of each")


def written(view):
    check_blurred_view(view)
    return line(view[0], VIEW_MARK, view[1])


def read(text):
    found = width_and_windows(text, VIEW_MARK)
    if not is_blurred_view(found):
        raise BadText("the text writes no view")
    return found


def slit_text(slit):
    return line(slit.width, SLIT_MARK, slit.windows())


def slit_of(text):
    found = width_and_windows(text, SLIT_MARK)
    windows = found[1]
    if len(windows) > MOST_WINDOWS or not all([is_window(window, found[0], LETTERS) for window in windows]):
        raise BadText("the text writes no slit")
    slit = Slit(found[0])
    for window in windows:
        slit.come(window)
    return slit
