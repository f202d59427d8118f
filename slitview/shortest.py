"""Texts that have a view within them, and the shortest of these."""

from slitview.basics import check_text_around, check_view, pieces


# As much of a window as can be lies on the one ahead of it, but never all: each window comes at a place of its own.
def added_letters(ahead, window):
    for shared in range(len(window) - 1, 0, -1):
        if ahead.endswith(window[:shared]):
            return window[shared:]
    return window


def without(windows, window):
    place = windows.index(window)
    return windows[:place] + windows[place + 1:]


# A shortest text is its windows in some order, each laid on the one ahead as far as can be: apart any farther, the
# text could be made shorter. So what is still to be added hangs on the window ahead and on those that are left alone,
# and `known` keeps it.
def least_ending(ahead, left, known):
    if len(left) == 0:
        return ""
    if (ahead, left) not in known:
        endings = []
        for window in sorted(set(left)):
            endings.append(added_letters(ahead, window) + least_ending(window, without(left, window), known))
        known[(ahead, left)] = min(endings, key=lambda ending: (len(ending), ending))
    return known[(ahead, left)]


def shortest(view):
    check_view(view)
    return least_ending("", view[1], {})


def lacking(view):
    more = pieces(shortest(view), view[0])
    for window in view[1]:
        more.remove(window)
    return sorted(more)


def within(text, view):
    check_text_around(text)
    check_view(view)
    there = pieces(text, view[0])
    return all([there.count(window) >= view[1].count(window) for window in view[1]])
