"""Slits: windows that come one by one."""

from slitview.bars import find_bar
from slitview.basics import MOST_LETTERS, MOST_WINDOWS, POINT
from slitview.basics import check_width, check_window, windows_that_fit
from slitview.errors import Full, Nothing
from slitview.fitting import texts


# Ten windows are more than a view has, but a text of up to 12 letters may still have them.
def some_text_has(windows, width):
    return len(windows) + width - 1 <= MOST_LETTERS and find_bar(windows) is None


def texts_with(windows, width):
    # No windows at all are no view.
    if len(windows) == 0:
        return []
    return texts((width, tuple(sorted(windows))))


class Slit:
    def __init__(self, width):
        check_width(width)
        self.width = width
        self.came = []

    def windows(self):
        return list(self.came)

    def come(self, window):
        check_window(window, self.width)
        if len(self.came) == MOST_WINDOWS:
            raise Full("a slit takes up to 9 windows")
        self.came.append(window)
        return len(texts_with(self.came, self.width))

    def told(self):
        having = texts_with(self.came, self.width)
        return having[0] if len(having) == 1 else None

    def fitting(self):
        width = self.width
        return [window for window in windows_that_fit(POINT * width) if some_text_has(self.came + [window], width)]

    def undo(self):
        if len(self.came) == 0:
            raise Nothing("there is no window to take back")
        return self.came.pop()
