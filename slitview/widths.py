"""Views that are narrower or wider, and texts told by several views."""

from slitview.basics import MOST_WINDOWS, WIDEST
from slitview.basics import check_view, text_view
from slitview.errors import Full, NoView, NoWidth
from slitview.fitting import texts

MOST_VIEWS = 4


def narrower(view):
    check_view(view)
    if view[0] == 1:
        raise NoWidth("no width is less than 1")
    if len(view[1]) == MOST_WINDOWS:
        raise Full("a narrower view would have more than 9 windows")
    return sorted(set([text_view(text, view[0] - 1) for text in texts(view)]))


def wider(view):
    check_view(view)
    if view[0] == WIDEST:
        raise NoWidth("no width is greater than 4")
    # A text of one window is too short for a wider one.
    if len(view[1]) == 1:
        return []
    return sorted(set([text_view(text, view[0] + 1) for text in texts(view)]))


# What in the list is no view is refused where its texts are asked for; all are, even where none is found any more.
def by_all(views):
    if not isinstance(views, list) or not 1 <= len(views) <= MOST_VIEWS:
        raise NoView("the views are a list of 1 to 4")
    found = texts(views[0])
    for view in views[1:]:
        found = sorted(set(found) & set(texts(view)))
    return found
