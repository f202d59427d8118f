"""What bars that a text has a view."""

from slitview.basics import check_view, is_whole_number


def heads_and_tails(windows):
    return [window[:-1] for window in windows] + [window[1:] for window in windows]


# By how many more windows each piece begins than it ends.
def excesses(windows):
    excess = {}
    for window in windows:
        excess[window[:-1]] = excess.get(window[:-1], 0) + 1
        excess[window[1:]] = excess.get(window[1:], 0) - 1
    return excess


def balance(view):
    check_view(view)
    excess = excesses(view[1])
    return [(piece, excess[piece]) for piece in sorted(excess) if excess[piece] != 0]


# All pieces to which one comes from the first window over windows that share a piece.
def reached_pieces(windows):
    reached = {windows[0][:-1]: True}
    known = 0
    while known < len(reached):
        known = len(reached)
        for window in windows:
            if window[:-1] in reached or window[1:] in reached:
                reached[window[:-1]] = True
                reached[window[1:]] = True
    return reached


# A text goes through all windows just if they hang together and at most one piece has to be begun at, and that once.
def find_bar(windows):
    excess = excesses(windows)
    starts = [piece for piece in sorted(excess) if excess[piece] > 0]
    if len(starts) > 1:
        return ("two", starts[0], starts[1])
    if len(starts) == 1 and excess[starts[0]] > 1:
        return ("more", starts[0])
    reached = reached_pieces(windows)
    places = [place for place, window in enumerate(windows) if window[:-1] in reached]
    if len(places) < len(windows):
        return ("apart", tuple(places))
    return None


def bar(view):
    check_view(view)
    return find_bar(view[1])


# A thing of any kind may be unfit as a key or for comparing, so its kind is asked first, here and below.
def begins_more(piece, windows, least):
    return isinstance(piece, str) and excesses(windows).get(piece, 0) >= least


def are_unlike_starts(one, other, windows):
    return begins_more(one, windows, 1) and begins_more(other, windows, 1) and one != other


def are_some_places(thing, count):
    if not isinstance(thing, tuple) or not 1 <= len(thing) < count:
        return False
    if not all([is_whole_number(place) for place in thing]):
        return False
    return list(thing) == [place for place in range(count) if place in thing]


def are_places_apart(thing, windows):
    if not are_some_places(thing, len(windows)):
        return False
    inside = heads_and_tails([windows[place] for place in thing])
    outside = heads_and_tails([window for place, window in enumerate(windows) if place not in thing])
    return not any([piece in outside for piece in inside])


def is_bar(view, thing):
    check_view(view)
    windows = view[1]
    if not isinstance(thing, tuple) or not 2 <= len(thing) <= 3 or not isinstance(thing[0], str):
        return False
    if len(thing) == 3:
        return thing[0] == "two" and are_unlike_starts(thing[1], thing[2], windows)
    if thing[0] == "more":
        return begins_more(thing[1], windows, 2)
    return thing[0] == "apart" and are_places_apart(thing[1], windows)
