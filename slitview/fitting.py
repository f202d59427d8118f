"""The texts and rings that have a view."""

from slitview.basics import LETTERS, MOST_WINDOWS, WIDEST
from slitview.basics import check_text, check_view, text_view, unrolled
from slitview.errors import Never, NoView
from slitview.views import turned


def counted(windows):
    counts = {}
    for window in windows:
        counts[window] = counts.get(window, 0) + 1
    return counts


# `left` says how often each window is still to come; it is put back as it was.
def add_endings(text, width, left, found):
    if not any(left.values()):
        found.append(text)
        return
    head = text[len(text) - width + 1:]
    for letter in LETTERS:
        window = head + letter
        if left.get(window, 0) > 0:
            left[window] = left[window] - 1
            add_endings(text + letter, width, left, found)
            left[window] = left[window] + 1


# Heads and letters are taken in rising order, so the texts, all as long, come rising and once each.
def texts(view):
    check_view(view)
    width = view[0]
    found = []
    for head in sorted(set([window[:-1] for window in view[1]])):
        add_endings(head, width, counted(view[1]), found)
    return found


def how_many(view):
    return len(texts(view))


def first(view):
    rising = texts(view)
    if len(rising) == 0:
        raise Never("no text has this view")
    return rising[0]


# A ring that has a view, unrolled from any letter on, is a text that has it; so texts are enough to look at.
def rings(view):
    found = {}
    for text in texts(view):
        ring = text[:len(view[1])]
        if unrolled(ring, view[0]) == text:
            found[turned(ring)] = True
    return sorted(found)


def twins(text, width):
    return [other for other in texts(text_view(text, width)) if other != text]


def least_width(text):
    check_text(text)
    if len(text) > MOST_WINDOWS:
        raise NoView("the text has more than 9 windows of width 1")
    for width in range(1, min(WIDEST, len(text)) + 1):
        if len(twins(text, width)) == 0:
            return width
    return None
