"""Plain, slow answers to compare the program's with, and things that are refused."""

from itertools import combinations_with_replacement, product

WIDTHS = (1, 2, 3, 4)


def all_texts(length):
    return ["".join(letters) for letters in product("abc", repeat=length)]


def plain_view(text, width):
    windows = []
    start = 0
    while start + width <= len(text):
        windows.append(text[start:start + width])
        start += 1
    windows.sort()
    return (width, tuple(windows))


def plain_ring_view(text, width):
    windows = []
    for start in range(len(text)):
        windows.append("".join(text[(start + step) % len(text)] for step in range(width)))
    windows.sort()
    return (width, tuple(windows))


def plain_turns(text):
    return [text[place:] + text[:place] for place in range(len(text))]


def texts_by_view(length, width):
    groups = {}
    for text in all_texts(length):
        groups.setdefault(plain_view(text, width), []).append(text)
    return groups


def rings_by_view(length, width):
    groups = {}
    for text in all_texts(length):
        if text == min(plain_turns(text)):
            groups.setdefault(plain_ring_view(text, width), []).append(text)
    return groups


def all_views(width, count):
    return [(width, windows) for windows in combinations_with_replacement(all_texts(width), count)]


class Sullen:
    """A thing that answers nothing that it is asked."""

    def refuse(self, *rest):
        raise RuntimeError("not to be asked")

    __eq__ = __ne__ = __lt__ = __gt__ = __le__ = __ge__ = refuse
    __hash__ = __len__ = __iter__ = __bool__ = __repr__ = __str__ = __getitem__ = __index__ = __int__ = refuse


def endless():
    things = []
    things.append(things)
    return things


def odd_things():
    """Things that are neither a text, nor a width, nor a view."""
    return [
        None, True, False, 0, -1, 5, 10 ** 5000, -10 ** 5000, 1j, "", "d", "A", "1", "2", " ", ".", "\n", "\u00e4",
        "\uff41", b"", b"a", b"abc", bytearray(b"ab"), [], [1], ["a"], ["a", "b"], (), (1,), ("a",), ("a", "b", "c"),
        {}, {"a": 1}, {1: "a"}, set(), {"a"}, frozenset("ab"), range(3), iter("abc"), object(), object, str, int, len,
        lambda: "a", Sullen(), Sullen, [Sullen()], (Sullen(), Sullen()), endless(), Ellipsis, NotImplemented,
        ValueError("a"), slice(1, 2),
    ]


NO_TEXTS = [1, 2, 4, 12, "abca" * 3 + "b", "abd", "abC", "ABC", "ab c", "abc ", "abc\n", "ab.", "c" * 13, "a" * 1000]
NO_TEXTS += [["a", "b"], ("a", "b"), (1, ("a",)), ("abc",)]

NO_WIDTHS = [5, 6, 100, -4, "a", "abc", "3", [2], (2,), (1, ("a",)), {2: 2}]


def no_texts():
    return odd_things() + NO_TEXTS


def no_widths():
    return odd_things() + NO_WIDTHS


def no_views():
    forms = [
        # of another form
        1, 2, "abc", "1: a", [2, ("ab",)], [2, ["ab"]], {2: ("ab",)}, (2,), (2, ("ab",), ("ab",)), (("ab",), 2),
        (2, "ab"), ("ab",), ("ab", "bc"), (2, "ab", "bc"), (2, ["ab"]), (2, {"ab"}), (2, {"ab": 1}), (2, None),
        (2, 2), (1, "a"), (1, "abc"), (1, (("a",),)), (1, [("a",)]),
        # with another width
        (True, ("a",)), (False, ("a",)), (False, ("",)), (0, ("",)), (5, ("aaaaa",)), (-1, ("a",)), (None, ("a",)),
        ("1", ("a",)), ((1,), ("a",)), ([1], ("a",)), (10 ** 5000, ("a",)), (13, ("a" * 13,)),
        # with windows of another length
        (1, ("aa",)), (2, ("a",)), (3, ("aaaa",)), (4, ("aaa",)), (2, ("ab", "b")), (2, ("a", "ab")), (2, ("ab", "abc")),
        (1, ("",)), (2, ("",)), (2, ("", "ab")), (1, ("a", "bb", "c")),
        # out of order
        (1, ("b", "a")), (1, ("a", "c", "b")), (2, ("ba", "ab")), (2, ("ab", "ab", "aa")), (4, ("aaab", "aaaa")),
        # none, and too many
        (1, ()), (2, ()), (3, ()), (4, ()), (1, ("a",) * 10), (2, ("ab",) * 10), (4, ("aaaa",) * 10), (3, ("abc",) * 99),
        # with other letters
        (1, ("d",)), (1, ("A",)), (1, ("1",)), (1, (".",)), (1, (" ",)), (2, ("a.",)), (2, (".a",)), (2, ("ad",)),
        (2, ("aa", "b\n")), (3, ("abd",)), (3, ("ABC",)), (4, ("abc ",)), (1, ("a", "b", "d")), (1, ("\u00e4",)),
        # with things that are no texts
        (1, (1,)), (1, (True,)), (1, (False,)), (1, (None,)), (1, (b"a",)), (1, (["a"],)), (2, (("a", "b"),)),
        (2, (["a", "b"],)), (1, ({},)), (1, ("a", 1)), (1, ("a", None)), (1, (None, "a")), (1, (Sullen(),)),
        (1, ("a", Sullen())), (Sullen(), ("a",)), (1, Sullen()), (1, endless()), (1, (endless(),)), (1, object()),
    ]
    return odd_things() + forms
