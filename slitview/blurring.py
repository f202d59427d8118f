"""Blurred views, and the views and texts that clear them."""

from slitview.bars import bar
from slitview.basics import check_blurred_view, check_view, windows_that_fit
from slitview.errors import Never
from slitview.fitting import texts


# Windows are put to the blurred ones in every way by taking, for each blurred one, every window that fits it;
# the order that comes of it doesn't count, so unlike ways to the same windows are kept as one.
def clearing_views(blurred):
    ways = {(): True}
    for blurred_window in blurred[1]:
        longer = {}
        for windows in ways:
            for window in windows_that_fit(blurred_window):
                longer[tuple(sorted(windows + (window,)))] = True
        ways = longer
    return [(blurred[0], windows) for windows in sorted(ways)]


def clears(blurred, view):
    check_blurred_view(blurred)
    check_view(view)
    return view in clearing_views(blurred)


def cleared(blurred):
    check_blurred_view(blurred)
    return [view for view in clearing_views(blurred) if bar(view) is None]


def through(blurred):
    found = []
    for view in cleared(blurred):
        found.extend(texts(view))
    return sorted(found)


def is_in_all(window, views):
    return all([window in view[1] for view in views])


def seen(blurred):
    views = cleared(blurred)
    if len(views) == 0:
        raise Never("no text has a view that clears this one")
    return [window for window in sorted(set(views[0][1])) if is_in_all(window, views)]
