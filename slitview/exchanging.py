"""Exchanges and turns, and the roads that they make between texts that look alike."""

from slitview.basics import pieces, text_view, unrolled
from slitview.errors import Unlike
from slitview.fitting import how_many


# The exchanges of all stretches of which the first begins at `start` and the other one at `again`.
def exchanges_from(text, row, start, again):
    found = []
    for end in range(start + 1, again + 1):
        for last in range(again + 1, len(row)):
            if row[end] == row[last]:
                found.append(text[:start] + text[again:last] + text[end:again] + text[start:end] + text[last:])
    return found


def exchanges(text, row):
    found = []
    for start in range(len(row)):
        for again in range(start + 1, len(row)):
            if row[start] == row[again]:
                found.extend(exchanges_from(text, row, start, again))
    return found


# A text whose last piece is the same as its first is a ring unrolled, so to begin at another window turns the ring.
def turns(text, row, width):
    if row[0] != row[-1]:
        return []
    ring = text[:len(row) - 1]
    return [unrolled(ring[place:] + ring[:place], width) for place in range(1, len(ring))]


def one_step_off(text, width):
    row = pieces(text, width - 1)
    return sorted(set(exchanges(text, row) + turns(text, row, width)) - set([text]))


def exchanged(text, width):
    text_view(text, width)
    return one_step_off(text, width)


# Adds, one step farther than `number`, what is not yet in `far`, and tells what was added.
def spread(newest, width, number, far):
    added = []
    for text in newest:
        for other in one_step_off(text, width):
            if other not in far:
                far[other] = number + 1
                added.append(other)
    return added


def farthest(text, width):
    count = how_many(text_view(text, width))
    far = {text: 0}
    newest = [text]
    number = 0
    # Steps lead to every text with the view, so all are there in the end; the last ones need not be stepped from.
    while len(far) < count:
        newest = spread(newest, width, number, far)
        number = number + 1
    return (number, min(newest))


# How far from `goal` texts are, up to those one step off `start`: the last step to `start` would take by far the most.
def distances(goal, start, width):
    near = one_step_off(start, width)
    far = {goal: 0}
    newest = [goal]
    number = 0
    while not any([text in far for text in near]):
        newest = spread(newest, width, number, far)
        number = number + 1
    return far


def check_alike(one, other, width):
    one_view = text_view(one, width)
    if one_view != text_view(other, width):
        raise Unlike("the two texts have unlike views")


# A step can be stepped back, so how far `other` is from a text is how far the text is from it.
def road(one, other, width):
    check_alike(one, other, width)
    way = [one]
    if one == other:
        return way
    far = distances(other, one, width)
    while way[-1] != other:
        near = [text for text in one_step_off(way[-1], width) if text in far]
        # Of the nearest ones the first is the least.
        way.append(min(near, key=lambda text: far[text]))
    return way


def steps(one, other, width):
    return len(road(one, other, width)) - 1
