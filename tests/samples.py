"""Arguments that several tests use."""

from onwardasks.graphs import Graph
from onwardasks.houses import House
from onwardasks.kinds import Kind
from onwardasks.live import Live
from onwardasks.panels import Panel


def nested(depth, inner="to"):
    """Return lists in lists, so many deep, around something."""
    for _ in range(depth):
        inner = [inner]
    return inner


def nested_tuple(depth):
    inner = ()
    for _ in range(depth):
        inner = (inner,)
    return inner


def nested_dict(depth):
    inner = {}
    for _ in range(depth):
        inner = {"to": inner}
    return inner


def plain_kind(name="room"):
    return Kind(name, {}, {}, [])


# Nothing in here is a name, "", a flag, a list, a tuple or a dict.
PLAIN_HOUSE = House([plain_kind()])
PLAIN_LIVE = Live(Graph(PLAIN_HOUSE, [("room", {})]))
ODD = [
    None, 0, 1, -1, 2 ** 70, 10 ** 5000, b"", b"to", b"try", bytearray(b"to"), Ellipsis, NotImplemented,
    set(), {"to"}, frozenset(["to"]), range(0), range(2), slice(1), memoryview(b"to"), object(), str, len,
    iter(["to"]), {"to": 1}.keys(), ValueError("to"), plain_kind(), PLAIN_HOUSE,
    Graph(PLAIN_HOUSE, [("room", {})]), Panel(PLAIN_HOUSE), PLAIN_LIVE, PLAIN_LIVE[0], PLAIN_LIVE.held(),
]
FLAGS = [True, False]
STRINGS = ["", "to", "self", "value", "try", "bar"]
NO_NAME_STRINGS = [
    "abcdefghi", "a" * 5000, "A", "Room", "rooM", "r2", "1", "a b", " a", "a ", "a\n", "\n", "a_b", "-", "*",
    "a-b", "a.b", "\0", "`", "{", "@", "[",
]
LISTS = [
    [], (), ["to"], ("to",), ["self"], ["value", "to"], [None], [[]], ((),), [True, False], [0, 1],
    nested(2), nested(90), nested_tuple(90), [nested(89), nested_dict(89)],
]
DICTS = [{}, {"to": "to"}, {"to": ["to"]}, {"self": ()}, {0: 1}, nested_dict(90)]

NO_NAMES = ODD + FLAGS + [""] + NO_NAME_STRINGS + LISTS + DICTS
NO_NAMES_OR_EMPTY = ODD + FLAGS + NO_NAME_STRINGS + LISTS + DICTS
NO_LISTS = ODD + FLAGS + STRINGS + DICTS
NO_DICTS = ODD + FLAGS + STRINGS + LISTS
NO_FLAGS = ODD + STRINGS + LISTS + DICTS
ANYTHING = ODD + FLAGS + STRINGS + NO_NAME_STRINGS + LISTS + DICTS


def no_indexes(many):
    """Return values that are no index into so many items."""
    wrong = [x for x in ANYTHING if type(x) is not int or not 0 <= x < many]
    return wrong + [-1, -many, many, many + 1, str(0), "0", [0], (0,), {0: 0}, b"0"]


def door():
    """Return the first kind of the example of point 15."""
    return Kind("door", {"to": ["room", ""]}, {"sign": ("self",)},
                [("bar", ["key"]), ("send", [], "to", "", "last", True)])


def room():
    """Return the second kind of the example of point 15."""
    return Kind("room", {}, {"key": ("value", "k"), "lamp": ("value", "on"), "me": ("self",)}, [])


def ring_house(*rules, own=None, choices=("k", "")):
    """Return the house of one kind "k" whose link "to" leads to such things."""
    return House([Kind("k", {"to": choices}, own or {}, list(rules))])


def send(names, under="", manner="last", wraps=False, link="to"):
    """Return a rule that sends on, by the link "to" if no other one is told."""
    return ("send", names, link, under, manner, wraps)
