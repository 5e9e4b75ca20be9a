"""Points 3, 4 and 16 to 19: Panel, rows, made, seed and row_of."""

import copy
import itertools
import unittest

from onwardasks.asks import ask
from onwardasks.errors import BadPanel, BadRow, NoKind, NoThing, Unlike
from onwardasks.graphs import Graph
from onwardasks.houses import House
from onwardasks.kinds import Kind
from onwardasks.panels import Panel, made, row_of, seed
from tests.drawn import draw_graphs, draw_house, draw_other_house, source
from tests.reference import TooLong, slow_columns, slow_made, slow_row_of
from tests.samples import ANYTHING, NO_DICTS, NO_LISTS, NO_NAMES, door, nested, no_indexes, ring_house, room, send

U, E, R, S = ("unknown",), ("endless",), ("refused",), ("self",)
K, L = ("thing", "k"), ("thing", "l")
NO_KIND_NAMES = ANYTHING + ["rooms", "lamp", ("k",), "kk"]


def value(name):
    return ("value", name)


def pair_house(*rules, own=None, below=()):
    """Return a house with a kind "k" of two links to "l" or nowhere, and a kind "l" with one link."""
    return House([Kind("k", {"a": ["l", ""], "b": ["l", "k", ""]}, own or {}, list(rules)),
                  Kind("l", {"c": ["k", ""]}, {}, list(below))])


class TestPanel(unittest.TestCase):
    def test_columns_of_one_house(self):
        panel = Panel(House([door(), room()]))
        self.assertEqual(panel.columns(), [(0, ""), (0, "key"), (0, "lamp"), (0, "me"), (0, "sign")])
        self.assertEqual(Panel(ring_house()).columns(), [(0, "")])

    def test_columns_of_two_houses(self):
        one, other = ring_house(("bar", ["b", "d"])), ring_house(("tell", ["c", "b"], "v"))
        names = ["", "b", "c", "d"]
        for first, second in ((one, other), (other, one)):
            self.assertEqual(Panel(first, second).columns(),
                             [(0, name) for name in names] + [(1, name) for name in names])
        self.assertEqual(Panel(one, one).columns(), [(side, name) for side in (0, 1) for name in ("", "b", "d")])
        self.assertEqual(Panel(ring_house(), ring_house()).columns(), [(0, ""), (1, "")])

    def test_twelve_names(self):
        one, other = [ring_house(("bar", names[:4]), ("bar", names[4:])) for names in (list("abcdef"), list("ghijkl"))]
        self.assertEqual(len(Panel(one, other).columns()), 26)

    def test_kinds_houses_links(self):
        one, other = pair_house(), pair_house(("bar", ["x"]))
        panel = Panel(one, other)
        self.assertEqual(panel.kinds(), ["k", "l"])
        self.assertEqual(panel.houses(), [one, other])
        self.assertEqual(Panel(one).houses(), [one])
        self.assertEqual(Panel(one, None).houses(), [one])
        self.assertEqual(panel.links("k"), {"a": ("", "l"), "b": ("", "k", "l")})
        self.assertEqual(panel.links("l"), {"c": ("", "k")})
        self.assertEqual(Panel(House([room()])).links("room"), {})

    def test_links_of_no_kind(self):
        panel = Panel(pair_house())
        for kind in NO_KIND_NAMES[:-2] + [("k",), "kk"]:
            with self.assertRaises(NoKind) as caught:
                panel.links(kind)
            self.assertIs(caught.exception.what, kind)

    def test_bad_panel(self):
        for x in [x for x in ANYTHING if not isinstance(x, House)]:
            with self.assertRaises(BadPanel) as caught:
                Panel(x)
            self.assertEqual(caught.exception.what, 0)
            with self.assertRaises(BadPanel) as caught:
                Panel(x, x)
            self.assertEqual(caught.exception.what, 0)
            if x is not None:
                with self.assertRaises(BadPanel) as caught:
                    Panel(ring_house(), x)
                self.assertEqual(caught.exception.what, 1)

    def test_unlike(self):
        for kind, one, other in [
                ("k", ring_house(), ring_house(choices=["k"])),
                ("l", ring_house(), pair_house().with_kind(Kind("k", {"to": ["k", ""]}, {}, []))),
                ("k", ring_house(), pair_house()),
                ("l", pair_house(), pair_house().with_kind(Kind("l", {"d": ["k", ""]}, {}, [])))]:
            for first, second in ((one, other), (other, one)):
                with self.assertRaises(Unlike) as caught:
                    Panel(first, second)
                self.assertEqual(caught.exception.what, kind)

    def test_by_keyword(self):
        one, other = pair_house(), pair_house(("bar", ["x"]))
        self.assertEqual(Panel(other=other, one=one).houses(), [one, other])
        self.assertEqual(Panel(one=one).links(kind="l"), {"c": ("", "k")})

    def test_lists_and_dicts_are_new_at_each_call(self):
        panel = Panel(pair_house())
        panel.columns().clear()
        panel.kinds().clear()
        panel.houses().clear()
        panel.links("k").clear()
        self.assertEqual([len(panel.columns()), len(panel.kinds()), len(panel.houses()), len(panel.links("k"))],
                         [1, 2, 1, 2])

    def test_listed_methods_stand_in_the_class(self):
        for name in ("columns", "kinds", "houses", "links"):
            self.assertIn(name, vars(Panel))


class TestSeed(unittest.TestCase):
    def test_seed(self):
        self.assertEqual(seed(Panel(ring_house(("bar", ["x"]))), "k"), ("k", (U, U), ()))
        panel = Panel(pair_house(("bar", ["x", "y"])), pair_house(("bar", ["z"])))
        self.assertEqual(seed(panel, "l"), ("l", (U,) * 8, ()))
        self.assertEqual(seed(kind="k", panel=panel), ("k", (U,) * 8, ()))

    def test_no_kind(self):
        for kind in NO_KIND_NAMES:
            if kind != "k":
                with self.assertRaises(NoKind) as caught:
                    seed(Panel(ring_house()), kind)
                self.assertIs(caught.exception.what, kind)


class TestRows(unittest.TestCase):
    """Which rows are rows of a panel, seen at the link "to" by made."""

    def panel(self):
        return Panel(ring_house(("bar", ["x", "y", "z"])))

    def assert_row(self, row):
        for form in (row, [row[0], list(row[1]), list(row[2])],
                     [row[0], [list(entry) for entry in row[1]], [list(pair) for pair in row[2]]]):
            self.assertEqual(made(self.panel(), "k", {"to": form})[0], "k")

    def assert_no_row(self, row):
        with self.assertRaises(BadRow) as caught:
            made(self.panel(), "k", {"to": row})
        self.assertEqual(caught.exception.what, "to")

    def test_every_entry(self):
        for entries in itertools.product([U, E, R, S, K, value("v"), value("unknown")], repeat=4):
            self.assert_row(("k", entries, ()))

    def test_pairs(self):
        for same in [(), ((0, 1),), ((2, 3),), ((0, 3),), ((0, 1), (2, 3)), ((0, 2), (1, 3)), ((0, 3), (1, 2)),
                     ((0, 1), (0, 2), (1, 2)), ((0, 1), (0, 3), (1, 3)), ((1, 2), (1, 3), (2, 3)),
                     ((0, 1), (0, 2), (0, 3), (1, 2), (1, 3), (2, 3))]:
            self.assert_row(("k", (K,) * 4, same))

    def test_exactly_the_ways_to_divide_positions_are_allowed(self):
        pairs = list(itertools.combinations(range(4), 2))
        good = 0
        for many in range(7):
            for same in itertools.combinations(pairs, many):
                closed = all((p, r) in same for p, q in same for q_, r in same if q == q_) and all(
                    (min(q, r), max(q, r)) in same for p, q in same for p_, r in same if p == p_ and q != r) and all(
                    (min(p, o), max(p, o)) in same for p, q in same for o, q_ in same if q == q_ and p != o)
                good += closed
                (self.assert_row if closed else self.assert_no_row)(("k", (K,) * 4, same))
        self.assertEqual(good, 15)

    def test_what_is_no_triple(self):
        row = ("k", (R,) * 4, ())
        for x in ANYTHING + [row[:2], row + ((),), {"k": 1, "l": 2, "m": 3}]:
            if x is not None:
                self.assert_no_row(x)

    def test_wrong_kinds(self):
        for kind in NO_NAMES + ["kk", "to", "x", ("k",)]:
            self.assert_no_row((kind, (R,) * 4, ()))

    def test_wrong_numbers_of_entries(self):
        for many in (0, 1, 3, 5, 8, 1000):
            self.assert_no_row(("k", (R,) * many, ()))

    def test_entries_that_are_no_list(self):
        for entries in NO_LISTS:
            self.assert_no_row(("k", entries, ()))

    def test_wrong_entries(self):
        for entry in ANYTHING + [
                (), ("value",), ("thing",), ("value", "v", "v"), ("thing", "k", "k"), ("thing", "l"), ("thing", "v"),
                ("thing", ""), ("value", ""), ("value", "V"), ("self", "k"), ("refused", "k"), ("endless", "k"),
                ("unknown", "k"), ("selfs",), ("Self",), ("k",), ("link", "to"), ("thing", ("to",)), ("refused", ()),
                "self", "unknown", "ab", ("value", 1), ("value", None), ("value", ["v"]), (["self"],), {"self": 1}]:
            if entry not in (["self"], ["value", "to"]):
                self.assert_no_row(("k", (R, entry, R, R), ()))
                self.assert_no_row(("k", (entry, R, R, R), ()))

    def test_same_that_is_no_list(self):
        for same in NO_LISTS:
            self.assert_no_row(("k", (R,) * 4, same))

    def test_wrong_pairs(self):
        wrong = ANYTHING + [(), (0,), (0, 1, 2), (1, 0), (1, 1), (0, 4), (-1, 0), (0, -1), (False, 1), (0, True), "01",
                            ("0", "1"), (0, "1"), (None, 1), ([0], 1), {0: 1, 1: 2}]
        for pair in wrong:
            if pair not in ([0, 1], [], ()):
                self.assert_no_row(("k", (K,) * 4, (pair,)))
                self.assert_no_row(("k", (K,) * 4, ((0, 1), pair)))

    def test_pairs_that_are_not_ascending_or_doubled(self):
        self.assert_no_row(("k", (K,) * 4, ((2, 3), (0, 1))))
        self.assert_no_row(("k", (K,) * 4, ((0, 1), (0, 1))))
        self.assert_no_row(("k", (K,) * 4, ((0, 1), (1, 2), (0, 2))))

    def test_pairs_of_positions_without_equal_thing_entries(self):
        for entry in (R, S, E, U, value("v"), value("k")):
            self.assert_no_row(("k", (entry, entry, K, K), ((0, 1),)))
            self.assert_no_row(("k", (K, entry, K, K), ((0, 1),)))
            self.assert_no_row(("k", (entry, K, K, K), ((0, 1),)))
            self.assert_row(("k", (entry, entry, K, K), ((2, 3),)))

    def test_pairs_of_things_of_different_kinds(self):
        panel = Panel(pair_house(("bar", ["x"])))
        for entries in ((K, L), (L, K)):
            with self.assertRaises(BadRow) as caught:
                made(panel, "l", {"c": ("k", entries, ((0, 1),))})
            self.assertEqual(caught.exception.what, "c")
            self.assertEqual(made(panel, "l", {"c": ("k", entries, ())}), ("l", (R, R), ()))

    def test_wrong_deep_inside(self):
        for deep in (nested(86), nested(86, inner=0), nested(86, inner=("self",))):
            for row in (deep, (deep, (R,) * 4, ()), ("k", deep, ()), ("k", (deep, R, R, R), ()),
                        ("k", (R,) * 4, deep), ("k", (K,) * 4, (deep,)), ("k", (K,) * 4, ((0, deep),)),
                        ("k", (("value", deep), R, R, R), ())):
                self.assert_no_row(row)


class TestMadeErrors(unittest.TestCase):
    def setUp(self):
        self.panel = Panel(pair_house(("bar", ["x"])))
        self.k, self.l = ("k", (R, R), ()), ("l", (R, R), ())

    def test_no_kind_comes_first(self):
        for kind in NO_KIND_NAMES:
            for below in ({}, None, {"a": 5}):
                if kind not in ("k", "l"):
                    with self.assertRaises(NoKind) as caught:
                        made(self.panel, kind, below)
                    self.assertIs(caught.exception.what, kind)

    def assert_bad(self, place, kind, below):
        with self.assertRaises(BadRow) as caught:
            made(self.panel, kind, below)
        self.assertEqual(caught.exception.what, place)

    def test_below_that_is_no_dict_of_the_links(self):
        for below in NO_DICTS + [{}, {"a": None}, {"a": None, "b": None, "c": None}, {"a": None, "c": None},
                                 {"a": None, 1: None}, {"a": 5, "bb": 5}, [("a", None), ("b", None)]]:
            self.assert_bad("", "k", below)
        self.assert_bad("", "l", {"a": None})
        with self.assertRaises(BadRow) as caught:
            made(Panel(House([room()])), "room", {"to": None})
        self.assertEqual(caught.exception.what, "")

    def test_the_first_link_that_is_wrong(self):
        for below in ({"a": 5, "b": 5}, {"b": 5, "a": 5}, {"b": None, "a": self.k}, {"a": ("l", (R,), ()), "b": None}):
            self.assert_bad("a", "k", below)
        for below in ({"a": None, "b": 5}, {"b": 5, "a": self.l}, {"b": ("l", (R, R, R), ()), "a": None}):
            self.assert_bad("b", "k", below)

    def test_a_kind_that_is_no_choice(self):
        self.assert_bad("a", "k", {"a": self.k, "b": self.k})
        self.assert_bad("c", "l", {"c": self.l})
        self.assertEqual(made(self.panel, "k", {"a": self.l, "b": self.k}), self.k)

    def test_nowhere_that_is_no_choice(self):
        with self.assertRaises(BadRow) as caught:
            made(Panel(ring_house(choices=["k"])), "k", {"to": None})
        self.assertEqual(caught.exception.what, "to")

    def test_wrong_rows_of_every_kind(self):
        for x in ANYTHING:
            if x is not None:
                self.assert_bad("a", "k", {"a": x, "b": None})
                self.assert_bad("b", "k", {"a": None, "b": x})


class TestMade(unittest.TestCase):
    def made_entry(self, steps, below, column="x", own=None):
        """Return the entry at the column that the steps make above the entries at "", x and y."""
        names = ("bar", ["x", "y"])
        panel = Panel(ring_house(*steps, names, own=own))
        row = None if below is None else ("k", below, ())
        entries = made(panel, "k", {"to": row})[1]
        return entries[panel.columns().index((0, column))]

    def test_own_answers(self):
        for below in (None, (U, U, U), (R, R, R)):
            self.assertEqual(self.made_entry([("tell", [], "w")], below, own={"x": value("v")}), value("v"))
            self.assertEqual(self.made_entry([("tell", [], "w")], below, own={"x": ("self",)}), S)
        self.assertEqual(self.made_entry([("tell", [], "w")], None, own={"x": ("link", "to")}), R)
        self.assertEqual(self.made_entry([("tell", [], "w")], (U, U, U), own={"x": ("link", "to")}), K)

    def test_bar_tell_self_give(self):
        for below in (None, (U, U, U), (E, E, E)):
            self.assertEqual(self.made_entry([("bar", ["x"])], below), R)
            self.assertEqual(self.made_entry([("tell", ["x"], "v")], below), value("v"))
            self.assertEqual(self.made_entry([("self", [])], below), S)
            for manner in ("try", "last"):
                answer = (value("w") if manner == "try" else R) if below is None else K
                self.assertEqual(self.made_entry([("give", ["x"], "to", manner), ("tell", [], "w")], below), answer)
            self.assertEqual(self.made_entry([], below), R)

    def test_send_above_every_entry(self):
        for manner in ("try", "last"):
            failed = value("w") if manner == "try" else R
            for wraps in (True, False):
                for entry, answer in [(U, U), (E, E), (R, failed), (S, S if wraps else K), (K, K),
                                      (value("v"), value("v"))]:
                    steps = [send([], "", manner, wraps), ("tell", [], "w")]
                    self.assertEqual(self.made_entry(steps, (R, entry, R)), answer)
                    self.assertEqual(self.made_entry(steps, (entry, R, R), column=""), answer)
                    steps = [send(["x"], "y", manner, wraps), ("tell", [], "w")]
                    self.assertEqual(self.made_entry(steps, (R, R, entry)), answer)
                steps = [send([], "", manner, wraps), ("tell", [], "w")]
                self.assertEqual(self.made_entry(steps, None), failed)

    def test_no_further_step_behind_unknown_and_endless(self):
        steps = [send(["x"], "y", "try"), send(["x"], "x", "try"), ("tell", [], "w")]
        for first, second, answer in [(R, R, value("w")), (R, U, U), (R, E, E), (U, E, U), (E, U, E), (U, S, U),
                                      (R, S, K), (S, U, K)]:
            self.assertEqual(self.made_entry(steps, (U, second, first)), answer)

    def test_kind_of_the_thing_behind(self):
        panel = Panel(pair_house(send([], link="b")))
        self.assertEqual(made(panel, "k", {"a": None, "b": ("l", (S,), ())}), ("k", (L,), ()))
        self.assertEqual(made(panel, "k", {"a": None, "b": ("l", (K,), ())}), ("k", (K,), ()))
        self.assertEqual(made(panel, "k", {"a": None, "b": ("k", (S,), ())}), ("k", (K,), ()))
        self.assertEqual(made(panel, "k", {"a": None, "b": ("k", (L,), ())}), ("k", (L,), ()))

    def test_a_repeated_send_fails_again(self):
        steps = [send(["x"], "y", "try"), ("give", ["y"], "to", "try"), send(["x"], "y", "last"), ("tell", [], "w")]
        self.assertEqual(self.made_entry(steps, (R, R, R)), R)
        self.assertEqual(self.made_entry(steps, None), R)
        self.assertEqual(self.made_entry(steps, (R, R, S)), K)
        steps[2] = send(["x"], "y", "try", True)
        self.assertEqual(self.made_entry(steps, (R, R, R)), value("w"))

    def test_same_of_the_thing_at_the_link_itself(self):
        panel = Panel(ring_house(send(["x"]), ("give", ["y"], "to", "last"), send(["z"], "y"), own={"w": ("link", "to")}))
        # The positions: 0 "", 1 w, 2 x, 3 y, 4 z. A wrapped self and a value share nothing.
        self.assertEqual(made(panel, "k", {"to": ("k", (R, R, S, S, R), ())}),
                         ("k", (R, K, K, K, K), ((1, 2), (1, 3), (1, 4), (2, 3), (2, 4), (3, 4))))
        self.assertEqual(made(panel, "k", {"to": ("k", (R, R, S, value("v"), R), ())}),
                         ("k", (R, K, K, K, value("v")), ((1, 2), (1, 3), (2, 3))))
        self.assertEqual(made(panel, "k", {"to": ("k", (R, R, K, S, R), ())}),
                         ("k", (R, K, K, K, K), ((1, 3), (1, 4), (3, 4))))
        self.assertEqual(made(panel, "k", {"to": None}), ("k", (R, R, R, R, R), ()))

    def test_same_of_things_behind_the_link(self):
        panel = Panel(ring_house(send(["x"]), send(["y"]), send(["z"], "x")))
        self.assertEqual(made(panel, "k", {"to": ("k", (R, K, K, R), ())}), ("k", (R, K, K, K), ((1, 3),)))
        self.assertEqual(made(panel, "k", {"to": ("k", (R, K, K, R), ((1, 2),))}),
                         ("k", (R, K, K, K), ((1, 2), (1, 3), (2, 3))))
        self.assertEqual(made(panel, "k", {"to": ("k", (K, K, R, K), ((0, 1), (0, 3), (1, 3)))}),
                         ("k", (R, K, R, K), ((1, 3),)))

    def test_same_of_different_links(self):
        panel = Panel(pair_house(send(["x"], "", link="a"), send(["y"], "x", link="b"), ("give", ["z"], "a", "last"),
                                 ("give", ["w"], "b", "last")))
        l_row = ("l", (R, R, S, R, R), ())
        # The positions: 0 "", 1 w, 2 x, 3 y, 4 z. The same row at both links is not the same thing.
        self.assertEqual(made(panel, "k", {"a": l_row, "b": l_row}), ("k", (R, L, L, L, L), ((1, 3), (2, 4))))
        l_row = ("l", (R, R, K, R, R), ())
        self.assertEqual(made(panel, "k", {"a": l_row, "b": l_row}), ("k", (R, L, K, K, L), ()))

    def test_two_sides(self):
        one = ring_house(send(["x"]), ("give", ["y"], "to", "last"))
        other = ring_house(send(["x"], "y"), ("tell", ["z"], "v"), send([]))
        panel = Panel(one, other)
        # The positions: 0 "", 1 x, 2 y, 3 z; 4 "", 5 x, 6 y, 7 z on the other side.
        below = ("k", (R, K, R, R, U, E, K, S), ((1, 6),))
        self.assertEqual(made(panel, "k", {"to": below}),
                         ("k", (R, K, K, R, U, K, K, value("v")), ((1, 5), (1, 6), (5, 6))))
        below = ("k", (R, S, R, R, K, E, S, S), ())
        self.assertEqual(made(panel, "k", {"to": below}),
                         ("k", (R, K, K, R, K, K, K, value("v")), ((1, 2), (1, 5), (1, 6), (2, 5), (2, 6), (5, 6))))

    def test_a_name_that_one_house_does_not_name(self):
        panel = Panel(ring_house(send([])), ring_house(("bar", ["x"])))
        below = ("k", (value("v"), value("w"), R, R), ())
        self.assertEqual(made(panel, "k", {"to": below})[1], (value("v"), value("w"), R, R))

    def test_lists_in_the_place_of_tuples(self):
        panel = Panel(ring_house(send(["x"]), send(["y"])))
        row = ["k", [["refused"], ["thing", "k"], ["thing", "k"]], [[1, 2]]]
        result = made(panel, "k", {"to": row})
        self.assertEqual(result, ("k", (R, K, K), ((1, 2),)))
        self.assertEqual([type(part) for part in (result, *result, *result[1], *result[2])],
                         [tuple, str] + [tuple] * 6)
        self.assertEqual(row, ["k", [["refused"], ["thing", "k"], ["thing", "k"]], [[1, 2]]])

    def test_by_keyword_and_without_changing_arguments(self):
        panel = Panel(ring_house(send([])))
        below = {"to": ["k", [["self"]], []]}
        before = copy.deepcopy(below)
        result = made(below=below, kind="k", panel=panel)
        self.assertEqual(result, ("k", (K,), ()))
        self.assertEqual(below, before)

    def test_drawn_rows(self):
        chance = source(13)
        entries = [U, E, R, S, K, K, L, L, value("v")]
        for _ in range(300):
            one = draw_house(chance, most_rules=6)
            houses = [one, draw_other_house(chance, one, names="pqr")][:chance.randint(1, 2)]
            panel = Panel(*houses)
            self.assertEqual(panel.columns(), slow_columns(houses))
            many = range(len(panel.columns()))
            for kind in panel.kinds():
                for _ in range(5):
                    below = {}
                    for link, choices in panel.links(kind).items():
                        chosen = chance.choice(choices)
                        row = [chance.choice(entries) for _ in many]
                        groups = [chance.randint(0, 2) for _ in many]
                        same = tuple((p, q) for p in many for q in many if p < q and groups[p] == groups[q]
                                     and row[p] == row[q] and row[p][0] == "thing")
                        below[link] = (chosen, tuple(row), same) if chosen else None
                    self.assertEqual(made(panel, kind, below), slow_made(houses, kind, below))


class TestRowOf(unittest.TestCase):
    def test_example(self):
        house = House([door(), room()])
        graph = Graph(house, [("door", {"to": 1}), ("room", {}), ("door", {"to": None})])
        panel = Panel(house)
        self.assertEqual(row_of(panel, graph, 0), ("door", (R, R, value("on"), S, S), ()))
        self.assertEqual(row_of(panel, graph, 1), ("room", (R, value("k"), value("on"), S, R), ()))
        self.assertEqual(row_of(panel, graph, 2), ("door", (R, R, R, R, S), ()))

    def test_same_and_kinds(self):
        house = pair_house(send(["x"], link="b"), ("give", ["y"], "b", "last"), send(["z"], "x", link="a"),
                           below=[send([], link="c"), ("self", [])])
        graph = Graph(house, [("k", {"a": 1, "b": 1}), ("l", {"c": 2}), ("k", {"a": None, "b": 2})])
        panel = Panel(house)
        self.assertEqual(row_of(panel, graph, 2), ("k", (R, E, K, R), ()))
        self.assertEqual(row_of(panel, graph, 1), ("l", (R, E, K, R), ()))
        self.assertEqual(row_of(panel, graph, 0), ("k", (R, E, L, E), ()))

    def test_endless(self):
        house = ring_house(send(["x"], "y"), send(["y"], "x"))
        graph = Graph(house, [("k", {"to": 0}), ("k", {"to": 0})])
        for index in (0, 1):
            self.assertEqual(row_of(Panel(house), graph, index), ("k", (R, E, E), ()))

    def test_two_sides(self):
        one, other = ring_house(send(["x"])), ring_house(("give", ["x"], "to", "try"), ("self", ["y"]))
        panel = Panel(one, other)
        for house in (one, other):
            graph = Graph(house, [("k", {"to": 1}), ("k", {"to": None})])
            self.assertEqual(row_of(panel, graph, 0), ("k", (R, R, R, R, K, S), ()))
        one = ring_house(send(["x"], "y"), ("self", []))
        panel = Panel(one, other)
        graph = Graph(one, [("k", {"to": 1}), ("k", {"to": None})])
        self.assertEqual(row_of(panel, graph, 0), ("k", (S, K, S, R, K, S), ((1, 4),)))

    def test_the_house_of_the_graph_may_be_a_third_one(self):
        one = ring_house(send(["x"]), ("self", []))
        third = ring_house(("tell", ["p", "q"], "v"))
        things = [("k", {"to": 1}), ("k", {"to": None})]
        self.assertEqual(row_of(Panel(one), Graph(third, things), 0), row_of(Panel(one), Graph(one, things), 0))
        for house in (one, third):
            self.assertEqual(row_of(Panel(one, third), Graph(house, things), 1)[1],
                             (S, S, S, R, R, value("v"), value("v"), R))

    def test_errors(self):
        graph = Graph(pair_house(), [("k", {"a": None, "b": None})])
        for index in (0, 5, None):
            with self.assertRaises(Unlike) as caught:
                row_of(Panel(ring_house()), graph, index)
            self.assertEqual(caught.exception.what, "k")
        with self.assertRaises(Unlike) as caught:
            row_of(Panel(pair_house().with_kind(Kind("l", {}, {}, []))), graph, None)
        self.assertEqual(caught.exception.what, "l")
        for index in no_indexes(1):
            with self.assertRaises(NoThing) as caught:
                row_of(Panel(pair_house()), graph, index)
            self.assertIs(caught.exception.what, index)

    def test_by_keyword(self):
        graph = Graph(ring_house(), [("k", {"to": 0})])
        self.assertEqual(row_of(index=0, graph=graph, panel=Panel(ring_house())), ("k", (R,), ()))

    def test_long_chains(self):
        house = ring_house(send(["x"], "", "try"), send(["y"], "x", "try"), ("self", ["x", "y"]))
        graph = Graph(house, [("k", {"to": k + 1}) for k in range(4999)] + [("k", {"to": None})])
        self.assertEqual(row_of(Panel(house), graph, 0), ("k", (R, K, K), ((1, 2),)))
        self.assertEqual(row_of(Panel(house, house), graph, 4999), ("k", (R, S, S, R, S, S), ()))

    def test_drawn(self):
        chance = source(14)
        compared = 0
        for _ in range(150):
            one = draw_house(chance, most_rules=5)
            other = draw_other_house(chance, one, names="pqr")
            third = draw_other_house(chance, one)
            for houses in ([one], [one, other]):
                panel = Panel(*houses)
                for graph in draw_graphs(chance, chance.choice([one, third]), 2):
                    things = [graph[k] for k in range(len(graph))]
                    rows = [row_of(panel, graph, k) for k in range(len(graph))]
                    for k, (kind, links) in enumerate(things):
                        below = {link: None if end is None else rows[end] for link, end in links.items()}
                        self.assertEqual(made(panel, kind, below), rows[k])
                        try:
                            self.assertEqual(slow_row_of(houses, things, k), rows[k])
                            compared += 1
                        except TooLong:
                            pass
                        over = [graph.over(house) for house in houses]
                        for (side, name), entry in zip(panel.columns(), rows[k][1]):
                            self.assertEqual(ask(over[side], k, name)[0], entry[0])
        self.assertGreater(compared, 500)


if __name__ == "__main__":
    unittest.main()
