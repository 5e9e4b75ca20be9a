"""Houses whose lists are just as long as point 21 allows, or longer by one; and wide houses."""

from onwardasks.houses import House
from onwardasks.kinds import Kind
from tests.samples import send

EVERY = ["", "k", "l", "m"]


def sixty_rows():
    """Return a house whose spread has 60 rows."""
    return House([
        Kind("k", {"a": ["l"], "b": ["k", "l", "m"]}, {}, [send(["p", "q"], "p", "try", link="b"),
                                                           send([], "", "try", link="a")]),
        Kind("l", {"a": ["", "m"]}, {"r": ("self",)}, [send(["p", "q"], "r", "try", True, "a"),
                                                       send([], "", "last", link="a")]),
        Kind("m", {"a": EVERY}, {}, [("give", ["p", "r"], "a", "try"), send([], "p", "try", True, "a")])])


def sixty_one_rows():
    """Return a house whose spread would have 61 rows."""
    return House([
        Kind("k", {}, {}, [("bar", ["q", "r"]), ("tell", ["q", "r"], "w")]),
        Kind("l", {"a": EVERY, "b": EVERY}, {"r": ("link", "b")}, [send([], "r", "try", True, "a"),
                                                                   send([], "", "last", True, "a")]),
        Kind("m", {"a": EVERY}, {}, [send(["q", "r"], "", "last", link="a"), send(["r"], "r", "last", True, "a")])])


def hundred_pairs():
    """Return a house whose founded has 100 pairs."""
    return House([
        Kind("k", {"a": EVERY}, {}, [send([], "", "try", link="a"), send([], "p", "try", True, "a"), ("bar", ["p"])]),
        Kind("l", {"a": ["", "k", "m"], "b": EVERY}, {}, [send(["p"], "", "last", True, "a")]),
        Kind("m", {"a": EVERY}, {}, [("give", ["p"], "a", "try"), send([], "p", "last", True, "a")])])


def hundred_one_pairs():
    """Return a house whose founded would have 101 pairs."""
    return House([
        Kind("k", {"a": ["", "k", "l"], "b": ["", "k"]}, {"q": ("value", "w")},
             [send(["p", "q"], "q", "last", True, "a"), send(["q", "r"], "q", "last", False, "a")]),
        Kind("l", {"a": ["", "k", "l"], "b": ["k", "l"]}, {"q": ("link", "a")},
             [send(["q", "r"], "q", "try", link="a"), ("bar", ["r"]), send(["p"], "p", "last", link="a"),
              send([], "r", "last", link="a")])])


def told_and_sent(last):
    """Return a house with many pairs and this last kind; without one if it is None."""
    first = [("tell", ["a"], "v"), send(["b"], "a", link="p"), send(["c"], "b", link="p")]
    rules = first + [("tell", ["d"], "v"), send(["e"], "d", link="q"), send(["f"], "e", link="q")]
    kinds = [Kind("x", {"p": ["", "x"], "q": ["", "x"]}, {}, rules),
             Kind("y", {"p": ["", "y"], "q": ["", "y"]}, {}, rules),
             Kind("z", {"p": ["", "z"]}, {}, first)]
    return House(kinds if last is None else kinds + [last])


def wide_house(*, rules=0):
    """Return a house of four kinds, each with two links to all of them, and so many rules that do not help."""
    kinds = []
    for name in "klmn":
        idle = [send(["r"], under, "try", link=link) for link in "ab" for under in "rstu"] * (rules // 8)
        kinds.append(Kind(name, {"a": list("klmn"), "b": ["", "k", "l", "m"]}, {}, idle + [
            send(["p"], "q", "try", True, "a"), send(["p"], "p", "try", link="b"),
            ("give", ["q"], "b", "try"), send(["q"], "r", "last", link="a"), send(["s"], "p", "last", link="b"),
            ("give", ["r"], "a", "try"), send(["t"], "s", "try", True, "a"), ("tell", ["t"], name)]))
    return House(kinds)
