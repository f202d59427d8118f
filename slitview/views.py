"""The views of texts and of rings."""

from slitview.basics import check_text, check_width, pieces, text_view, unrolled, view_of


def view(text, width):
    return text_view(text, width)


def ring_view(text, width):
    check_text(text)
    check_width(width)
    return view_of(width, pieces(unrolled(text, width), width))


def alike(one, other, width):
    # All refusals of the first text come ahead of those of the other one.
    first_view = text_view(one, width)
    return first_view == text_view(other, width)


def turned(text):
    check_text(text)
    return min([text[place:] + text[:place] for place in range(len(text))])
