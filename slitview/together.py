"""Texts that have a view together, and the letters that are sure."""

from slitview.bars import excesses, reached_pieces
from slitview.basics import POINT, check_view
from slitview.errors import Full, Never
from slitview.fitting import texts

MOST_WINDOWS_SHARED = 6


def check_shared_view(view):
    check_view(view)
    if len(view[1]) > MOST_WINDOWS_SHARED:
        raise Full("a view that is shared out among texts has up to 6 windows")


# All ways to part windows in two, the first window always in the first part: so no way comes once more the other way
# round. The parts are in order, as the windows are.
def partings(windows):
    ways = [(windows[:1], ())]
    for window in windows[1:]:
        longer = []
        for part, rest in ways:
            longer.append((part + (window,), rest))
            longer.append((part, rest + (window,)))
        ways = longer
    return [way for way in sorted(set(ways)) if len(way[1]) > 0]


def pairs(view):
    check_shared_view(view)
    found = {}
    for part, rest in partings(view[1]):
        others = texts((view[0], rest))
        for one in texts((view[0], part)):
            for other in others:
                found[(min(one, other), max(one, other))] = True
    return sorted(found)


# Windows that hang together by their pieces take a text for each time that a piece begins a window more than it ends,
# since there one must begin; where no piece does, one text goes round them all.
def fewest_for(windows):
    excess = excesses(windows)
    return max(1, sum([number for number in excess.values() if number > 0]))


def fewest_texts(view):
    check_view(view)
    left = view[1]
    count = 0
    while len(left) > 0:
        reached = reached_pieces(left)
        count = count + fewest_for([window for window in left if window[:-1] in reached])
        left = [window for window in left if window[:-1] not in reached]
    return count


# The least rising list of so many texts that have the windows together; an empty one, where there is none. A lesser
# text of the part, or a lesser list of the rest, always makes the whole list a lesser one, so the least are enough.
def least_list(windows, width, count):
    if count == 1:
        return texts((width, windows))[:1]
    lists = []
    for part, rest in partings(windows):
        least = texts((width, part))[:1]
        others = least_list(rest, width, count - 1)
        if len(least) > 0 and len(others) > 0:
            lists.append(sorted(least + others))
    return min(lists, default=[])


def bundle(view):
    check_shared_view(view)
    return least_list(view[1], view[0], fewest_texts(view))


def sure_sign(letters):
    return letters[0] if len(set(letters)) == 1 else POINT


def sure(view):
    having = texts(view)
    if len(having) == 0:
        raise Never("no text has this view")
    return "".join([sure_sign([text[place] for text in having]) for place in range(len(having[0]))])
