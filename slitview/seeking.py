"""Seekers: questions by which one of the texts that have a view is told."""

from slitview.basics import LETTERS, is_whole_number, is_window
from slitview.errors import Full, Never, NoLetters, NoPlace, Nothing
from slitview.fitting import texts

MOST_TEXTS = 16


def with_letter(left, place, letter):
    return tuple([text for text in left if text[place] == letter])


def answers_to(left, place):
    return [letter for letter in LETTERS if len(with_letter(left, place, letter)) > 0]


# A question that all texts answer alike leads nowhere, and must not be asked for ever.
def places_to_ask(left):
    return [place for place in range(len(left[0])) if len(answers_to(left, place)) > 1]


def needed_by(place, left, known):
    parts = [with_letter(left, place, letter) for letter in answers_to(left, place)]
    return 1 + max([needed_for(part, known) for part in parts])


# The same texts are left in many ways; `known` keeps how many questions they need.
def needed_for(left, known):
    if len(left) == 1:
        return 0
    if left not in known:
        known[left] = min([needed_by(place, left, known) for place in places_to_ask(left)])
    return known[left]


def check_place(thing, count):
    if not is_whole_number(thing) or not 0 <= thing < count:
        raise NoPlace("a place is a whole number from 0 on, less than the text has letters")


def check_letter(thing):
    if not is_window(thing, 1, LETTERS):
        raise NoLetters("a letter is a, b or c")


class Seeker:
    def __init__(self, view):
        having = texts(view)
        if len(having) == 0:
            raise Never("no text has this view")
        if len(having) > MOST_TEXTS:
            raise Full("a seeker takes a view that up to 16 texts have")
        self.having = tuple(having)
        self.answers = []

    def left(self):
        found = self.having
        for place, letter in self.answers:
            found = with_letter(found, place, letter)
        return list(found)

    def needed(self):
        return needed_for(tuple(self.left()), {})

    def best(self):
        left = tuple(self.left())
        if len(left) == 1:
            return None
        known = {}
        # Of the places that need the fewest questions `min` takes the first.
        return min(places_to_ask(left), key=lambda place: needed_by(place, left, known))

    def hear(self, place, letter):
        check_place(place, len(self.having[0]))
        check_letter(letter)
        found = with_letter(self.left(), place, letter)
        if len(found) == 0:
            raise Never("no text that is left has this letter there")
        self.answers.append((place, letter))
        return len(found)

    def heard(self):
        return list(self.answers)

    def undo(self):
        if len(self.answers) == 0:
            raise Nothing("there is no answer to take back")
        return self.answers.pop()
