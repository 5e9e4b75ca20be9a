"""Arguments that several tests use."""

from onwardasks.houses import House
from onwardasks.kinds import Kind


def nested(depth, inner="to"):
    """Return lists in lists, so many deep, around something."""
    for _ in range(depth):
        inner = [inner]
    return inner


def nested_tuple(depth):
    inner = ()
    for _ in range(depth):
        inner = (inner,)
    return inner


def nested_dict(depth):
    inner = {}
    for _ in range(depth):
        inner = {"to": inner}
    return inner


def plain_kind(name="room"):
    return Kind(name, {}, {}, [])


# Nothing in here is a name, "", a flag, a list, a tuple or a dict.
ODD = [
    None, 0, 1, -1, 2 ** 70, 10 ** 5000, b"", b"to", b"try", bytearray(b"to"), Ellipsis, NotImplemented,
    set(), {"to"}, frozenset(["to"]), range(0), range(2), slice(1), memoryview(b"to"), object(), str, len,
    iter(["to"]), {"to": 1}.keys(), ValueError("to"), plain_kind(), House([plain_kind()]),
]
FLAGS = [True, False]
STRINGS = ["", "to", "self", "value", "try", "bar"]
NO_NAME_STRINGS = [
    "abcdefghi", "a" * 5000, "A", "Room", "rooM", "r2", "1", "a b", " a", "a ", "a\n", "\n", "a_b", "-", "*",
    "a-b", "a.b", "\0", "`", "{", "@", "[",
]
LISTS = [
    [], (), ["to"], ("to",), ["self"], ["value", "to"], [None], [[]], ((),), [True, False], [0, 1],
    nested(2), nested(90), nested_tuple(90), [nested(89), nested_dict(89)],
]
DICTS = [{}, {"to": "to"}, {"to": ["to"]}, {"self": ()}, {0: 1}, nested_dict(90)]

NO_NAMES = ODD + FLAGS + [""] + NO_NAME_STRINGS + LISTS + DICTS
NO_NAMES_OR_EMPTY = ODD + FLAGS + NO_NAME_STRINGS + LISTS + DICTS
NO_LISTS = ODD + FLAGS + STRINGS + DICTS
NO_DICTS = ODD + FLAGS + STRINGS + LISTS
NO_FLAGS = ODD + STRINGS + LISTS + DICTS
