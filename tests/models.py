"""Plain, slow answers to compare the program's with, and things that are refused."""

from itertools import combinations_with_replacement, permutations, product

WIDTHS = (1, 2, 3, 4)


def all_texts(length):
    return ["".join(letters) for letters in product("abc", repeat=length)]


def plain_view(text, width):
    windows = []
    start = 0
    while start + width <= len(text):
        windows.append(text[start:start + width])
        start += 1
    windows.sort()
    return (width, tuple(windows))


def plain_ring_view(text, width):
    windows = []
    for start in range(len(text)):
        windows.append("".join(text[(start + step) % len(text)] for step in range(width)))
    windows.sort()
    return (width, tuple(windows))


def plain_turns(text):
    return [text[place:] + text[:place] for place in range(len(text))]


def texts_by_view(length, width):
    groups = {}
    for text in all_texts(length):
        groups.setdefault(plain_view(text, width), []).append(text)
    return groups


def rings_by_view(length, width):
    groups = {}
    for text in all_texts(length):
        if text == min(plain_turns(text)):
            groups.setdefault(plain_ring_view(text, width), []).append(text)
    return groups


def all_views(width, count):
    return [(width, windows) for windows in combinations_with_replacement(all_texts(width), count)]


def plain_pieces(window):
    return [window[:len(window) - 1], window[1:]]


def plain_balance(view):
    heads = [plain_pieces(window)[0] for window in view[1]]
    tails = [plain_pieces(window)[1] for window in view[1]]
    return {piece: heads.count(piece) - tails.count(piece) for piece in heads + tails}


def plain_is_apart(view, places):
    within = {piece for place in places for piece in plain_pieces(view[1][place])}
    without = {piece for place in range(len(view[1])) if place not in places for piece in plain_pieces(view[1][place])}
    return bool(within) and bool(without) and not within & without


def plain_ends(text, windows, width):
    """Whether a text can go on, letter by letter, through windows in some order."""
    if not windows:
        return True
    for window in set(windows):
        if text.endswith(window[:width - 1]):
            rest = list(windows)
            rest.remove(window)
            if plain_ends(text + window[-1], rest, width):
                return True
    return False


def plain_some_text(windows, width):
    return len(windows) + width - 1 <= 12 and any(plain_ends(window[:width - 1], windows, width) for window in windows)


def plain_fits(window, blurred_window):
    return all(sign in (".", letter) for letter, sign in zip(window, blurred_window, strict=True))


def plain_clears(blurred, view):
    """By trying all orders; of a few windows alone."""
    if blurred[0] != view[0] or len(blurred[1]) != len(view[1]):
        return False
    return any(all(map(plain_fits, windows, blurred[1])) for windows in set(permutations(view[1])))


def plain_clearing(blurred):
    """All views that come of letters in the places of the points."""
    width, windows = blurred
    found = set()
    for letters in product("abc", repeat="".join(windows).count(".")):
        rest = list(letters)
        signs = "".join(rest.pop() if sign == "." else sign for sign in "".join(windows))
        found.add((width, tuple(sorted(signs[place:place + width] for place in range(0, len(signs), width)))))
    return sorted(found)


def plain_within(text, view):
    """Takes each of the view's windows out of those of the text."""
    left = list(plain_view(text, view[0])[1])
    for window in view[1]:
        if window not in left:
            return False
        left.remove(window)
    return True


def plain_text(windows):
    """The text whose windows these are, in this order; None, where they don't go on from one another."""
    for one, other in zip(windows, windows[1:]):
        if one[1:] != other[:-1]:
            return None
    return windows[0] + "".join(window[-1] for window in windows[1:])


def windows_in_order(text, width):
    return [text[place:place + width] for place in range(len(text) - width + 1)]


def plain_steps_off(text, width):
    """All texts that come of one exchange or turn, by windows instead of letters: the row's pieces lie between them."""
    windows = windows_in_order(text, width)
    row = [window[:-1] for window in windows] + [windows[-1][1:]]
    found = set()
    for i, j, k, l in product(range(len(row)), repeat=4):
        if i < j <= k < l and row[i] == row[k] and row[j] == row[l]:
            found.add(plain_text(windows[:i] + windows[k:l] + windows[j:k] + windows[i:j] + windows[l:]))
    if row[0] == row[-1]:
        for place in range(1, len(windows)):
            found.add(plain_text(windows[place:] + windows[:place]))
    return sorted(found - {text})


class Sullen:
    """A thing that answers nothing that it is asked."""

    def refuse(self, *rest):
        raise RuntimeError("not to be asked")

    __eq__ = __ne__ = __lt__ = __gt__ = __le__ = __ge__ = refuse
    __hash__ = __len__ = __iter__ = __bool__ = __repr__ = __str__ = __getitem__ = __index__ = __int__ = refuse


def endless():
    things = []
    things.append(things)
    return things


def odd_things():
    """Things that are neither a text, nor a width, nor a view."""
    return [
        None, True, False, 0, -1, 5, 10 ** 5000, -10 ** 5000, 1j, "", "d", "A", "1", "2", " ", ".", "\n", "\u00e4",
        "\uff41", b"", b"a", b"abc", bytearray(b"ab"), [], [1], ["a"], ["a", "b"], (), (1,), ("a",), ("a", "b", "c"),
        {}, {"a": 1}, {1: "a"}, set(), {"a"}, frozenset("ab"), range(3), iter("abc"), object(), object, str, int, len,
        lambda: "a", Sullen(), Sullen, [Sullen()], (Sullen(), Sullen()), endless(), Ellipsis, NotImplemented,
        ValueError("a"), slice(1, 2),
    ]


NO_TEXTS = [1, 2, 4, 12, "abca" * 3 + "b", "abd", "abC", "ABC", "ab c", "abc ", "abc\n", "ab.", "c" * 13, "a" * 1000]
NO_TEXTS += [["a", "b"], ("a", "b"), (1, ("a",)), ("abc",)]

# None of these is a view, but each is a blurred one.
BLURRED_VIEWS = [
    (1, (".",)), (1, (".", "a")), (1, (".",) * 6), (1, (".",) * 6 + ("a", "b", "c")), (2, ("a.",)), (2, (".a",)),
    (2, ("..", "..", "..")), (2, (".a", "a.", "ab")), (3, ("...", "...", "abc")), (3, (".a.", "ab.", "b.c")),
    (4, ("....", "a..a")), (4, ("abc.",)), (4, (".bcc",)), (4, ("aaa.",) * 6 + ("aaaa",) * 3),
]

NO_WIDTHS = [5, 6, 100, -4, "a", "abc", "3", [2], (2,), (1, ("a",)), {2: 2}]


def no_texts():
    return odd_things() + NO_TEXTS


def no_widths():
    return odd_things() + NO_WIDTHS


def no_views():
    forms = [
        # of another form
        1, 2, "abc", "1: a", [2, ("ab",)], [2, ["ab"]], {2: ("ab",)}, (2,), (2, ("ab",), ("ab",)), (("ab",), 2),
        (2, "ab"), ("ab",), ("ab", "bc"), (2, "ab", "bc"), (2, ["ab"]), (2, {"ab"}), (2, {"ab": 1}), (2, None),
        (2, 2), (1, "a"), (1, "abc"), (1, (("a",),)), (1, [("a",)]),
        # with another width
        (True, ("a",)), (False, ("a",)), (False, ("",)), (0, ("",)), (5, ("aaaaa",)), (-1, ("a",)), (None, ("a",)),
        ("1", ("a",)), ((1,), ("a",)), ([1], ("a",)), (10 ** 5000, ("a",)), (13, ("a" * 13,)),
        # with windows of another length
        (1, ("aa",)), (2, ("a",)), (3, ("aaaa",)), (4, ("aaa",)), (2, ("ab", "b")), (2, ("a", "ab")), (2, ("ab", "abc")),
        (1, ("",)), (2, ("",)), (2, ("", "ab")), (1, ("a", "bb", "c")),
        # out of order
        (1, ("b", "a")), (1, ("a", "c", "b")), (2, ("ba", "ab")), (2, ("ab", "ab", "aa")), (4, ("aaab", "aaaa")),
        # none, and too many
        (1, ()), (2, ()), (3, ()), (4, ()), (1, ("a",) * 10), (2, ("ab",) * 10), (4, ("aaaa",) * 10), (3, ("abc",) * 99),
        # with other letters
        (1, ("d",)), (1, ("A",)), (1, ("1",)), (1, (" ",)), (2, ("ad",)),
        (2, ("aa", "b\n")), (3, ("abd",)), (3, ("ABC",)), (4, ("abc ",)), (1, ("a", "b", "d")), (1, ("\u00e4",)),
        # with things that are no texts
        (1, (1,)), (1, (True,)), (1, (False,)), (1, (None,)), (1, (b"a",)), (1, (["a"],)), (2, (("a", "b"),)),
        (2, (["a", "b"],)), (1, ({},)), (1, ("a", 1)), (1, ("a", None)), (1, (None, "a")), (1, (Sullen(),)),
        (1, ("a", Sullen())), (Sullen(), ("a",)), (1, Sullen()), (1, endless()), (1, (endless(),)), (1, object()),
    ]
    return odd_things() + forms + BLURRED_VIEWS


def no_blurred_views():
    forms = [
        # with seven points and more
        (1, (".",) * 7), (1, (".",) * 8 + ("a",)), (2, ("..", "..", "..", ".a")), (3, ("...", "...", "..a")),
        (4, ("....", "....")), (4, ("....", "...a")), (4, ("....", "a...")), (2, (".a",) * 7), (2, (".a",) * 6 + ("a.",)),
        (1, (".",) * 9), (4, ("....",) * 9),
        # points out of order
        (1, ("a", ".")), (2, ("aa", ".a")), (2, ("aa", "a.")), (2, (".a", "..")), (2, ("a.", ".a")), (3, ("ab.", "a.b")),
        (4, ("aaaa", "aaa.")), (1, (".", "b", "a")), (1, ("a", ".", "b")),
        # with other signs
        (1, ("?",)), (1, ("*",)), (1, (",",)), (2, (".d",)), (2, (".?",)), (2, (". ",)), (2, (".A",)), (3, (".a_",)),
        (1, ("\u00b7",)), (1, ("\u2024",)), (1, ("\uff0e",)), (2, (".\n",)),
        # windows of another length, no windows, ten of them
        (1, ("..",)), (2, (".",)), (2, ("...",)), (3, ("..", "...")), (4, ("...",)), (1, (".",) * 6 + ("a",) * 4),
        (2, ("a.",) * 3 + ("ab",) * 7), (2, ()),
        # of another form
        ".", "..", "1: .", (1, "."), (1, ["."]), [1, (".",)], (True, (".",)), (0, (".",)), (5, (".....",)), (1, ".", "."),
        (1, (".", None)), (1, (".", 1)), (1, (".", Sullen())), (1, (b".",)), (1, ((".",),)), (".", 1), (None, (".",)),
    ]
    return [thing for thing in no_views() if not any(thing is one for one in BLURRED_VIEWS)] + forms


def no_windows(width):
    """Things that are no window of a width."""
    forms = [letter * length for letter in "abc" for length in range(14) if length != width]
    forms += ["a" * (width - 1) + sign for sign in "dAB1. \n\u00e4\uff41"]
    forms += [sign + "a" * (width - 1) for sign in "dAB1. \n\u00e4\uff41"]
    forms += ["." * width, ["a"] * width, ("a",) * width, b"a" * width, {"a" * width: True}, width, (width, ("a" * width,))]
    return [thing for thing in odd_things() if not isinstance(thing, str)] + forms
