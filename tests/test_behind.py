"""Points 3, 4 and 28 to 30: things and the things behind their links."""

import itertools

from onwardasks.asks import ask
from onwardasks.behind import unlike
from onwardasks.errors import NoKind, NoLink, NoName, TooMany
from onwardasks.graphs import Graph
from onwardasks.houses import House
from onwardasks.kinds import Kind
from onwardasks.lists import founded
from onwardasks.panels import Panel
from tests.cases import Case, houses_in_bounds
from tests.crowded import hundred_one_pairs, sixty_one_rows
from tests.drawn import draw_graphs, source
from tests.reference import all_things, slow_follows
from tests.samples import ANYTHING, NO_NAMES, door, nested, nested_tuple, ring_house, room, send


def proxied(rules, below_own=None, below_rules=(), *, own=None, choices=("room",)):
    """Return a house of a kind "door" with these own answers and rules and a kind "room" behind its link "to"."""
    return House([Kind("door", {"to": list(choices)}, own or {}, rules),
                  Kind("room", {"on": ["room", "door", ""]}, below_own or {}, list(below_rules))])


class TestUnlike(Case):
    def assert_unlike(self, column, house, kind, link, names=None, *, bare=False):
        """unlike returns this column and a graph that shows it, or None if column is None."""
        found = unlike(house, kind, link, names, bare=bare)
        if column is None:
            self.assertIsNone(found)
            return
        self.assertIs(type(found), tuple)
        told, graph = found
        self.assertEqual(told, column)
        self.assertIs(type(graph), Graph)
        self.assertEqual(graph.house, house)
        self.assertLessEqual(len(graph), len(founded(Panel(house))) + 1)
        things = [graph[k] for k in range(len(graph))]
        self.assertEqual(things[0][0], kind)
        self.assertIsNotNone(things[0][1][link])
        self.assertFalse(slow_follows(house, things, 0, link, column, bare))


class TestByHand(TestUnlike):
    def test_the_example_of_point_15(self):
        house = House([door(), room()])
        self.assert_unlike("key", house, "door", "to")
        self.assert_unlike(None, house, "door", "to", ["lamp", "me", "zzz"])
        self.assert_unlike("sign", house, "door", "to", ["lamp", "sign"])
        self.assert_unlike("sign", house, "door", "to", ["sign", "key"][:1])
        self.assert_unlike("key", house, "door", "to", ["sign", "key"])
        self.assert_unlike("me", house, "door", "to", ["me", "sign"], bare=True)

    def test_each_sort_of_answer_behind_the_link(self):
        """A send alone hands each answer on; wraps decides whether it follows what answers itself."""
        for below in ({"a": ("value", "v")}, {"a": ("self",)}, {"a": ("link", "on")}, {}):
            for bare in (False, True):
                for wraps in (False, True):
                    # It differs only at "a", and only if the thing there is to be wrapped and is not, or the other way.
                    right = below != {"a": ("self",)} or wraps != bare
                    house = proxied([send([], wraps=wraps)], below)
                    for names in (None, ["a"], ["a", "b"]):
                        self.assert_unlike(None if right else "a", house, "door", "to", names, bare=bare)
                    self.assert_unlike(None, house, "door", "to", ["b"], bare=bare)

    def test_an_answer_that_is_not_handed_on(self):
        for below_own, below_rules in [({"a": ("value", "v")}, []), ({"a": ("self",)}, []), ({"a": ("link", "on")}, []),
                                       ({}, [send(["a"], link="on")]), ({}, [("tell", ["a"], "v")]),
                                       ({}, [("give", ["a"], "on", "try")])]:
            for rules in ([("bar", ["a"])], [("tell", ["a"], "w")], [send(["a"], "b")]):
                self.assert_unlike("a", proxied(rules + [send([])], below_own, below_rules), "door", "to")
            self.assert_unlike("a", proxied([], below_own, below_rules), "door", "to")

    def test_refused_below_and_an_answer_above(self):
        for rules, bare_follows in [([("tell", ["a"], "v")], False), ([("self", ["a"])], False),
                                    ([("give", ["a"], "to", "try")], False)]:
            self.assert_unlike("a", proxied(rules), "door", "to")
            self.assert_unlike("a", proxied(rules), "door", "to", bare=True)
            self.assert_unlike(None, proxied(rules), "door", "to", ["b"])
        self.assert_unlike(None, proxied([("bar", [])]), "door", "to")
        self.assert_unlike(None, proxied([]), "door", "to")

    def test_a_value_is_the_same_wherever_it_comes_from(self):
        self.assert_unlike(None, proxied([("tell", ["a"], "v")], {"a": ("value", "v")}), "door", "to")
        self.assert_unlike("a", proxied([("tell", ["a"], "w")], {"a": ("value", "v")}), "door", "to")
        self.assert_unlike(None, proxied([send(["a"], "b")], {"a": ("value", "v"), "b": ("value", "v")}),
                           "door", "to", ["a"])

    def test_itself_in_the_place_of_the_thing_there(self):
        own_self = {"a": ("self",)}
        self.assert_unlike(None, proxied([("self", ["a"])], own_self), "door", "to")
        self.assert_unlike("a", proxied([("self", ["a"])], own_self), "door", "to", bare=True)
        for rules, own in (([("give", ["a"], "to", "last")], {}), ([], {"a": ("link", "to")})):
            self.assert_unlike("a", proxied(rules, own_self, own=own), "door", "to")
            self.assert_unlike(None, proxied(rules, own_self, own=own), "door", "to", bare=True)

    def test_the_same_thing_by_another_path(self):
        """Paths count: a thing with two links to one thing answers by the wrong one."""
        kinds = [Kind("k", {"a": ["l"], "b": ["l"]}, {}, [send(["p"], link="b"), send([], link="a")]),
                 Kind("l", {"on": ["l"]}, {"p": ("link", "on"), "q": ("link", "on")}, [])]
        self.assert_unlike("p", House(kinds), "k", "a")
        self.assert_unlike("q", House(kinds), "k", "b")
        self.assert_unlike(None, House(kinds), "k", "b", ["p"])

    def test_equal_paths_from_different_columns(self):
        """Asking under another name follows as long as the thing there answers the same path to both."""
        same = proxied([send([], "b")], {"a": ("link", "on"), "b": ("link", "on")})
        self.assert_unlike(None, same, "door", "to", ["a", "b"])
        self.assert_unlike("", same, "door", "to", ["z", "a", "b"])
        other = proxied([send(["a"], "b")], {"a": ("link", "on")}, [send(["b"], "a", link="on"), ("give", [], "on", "last")])
        self.assert_unlike("a", other, "door", "to", ["a"])

    def test_a_link_that_may_lead_nowhere(self):
        for choices in (["room"], ["room", ""]):
            self.assert_unlike(None, proxied([send([], wraps=True)], {"a": ("self",)}, choices=choices), "door", "to")
            self.assert_unlike("a", proxied([send(["b"])], {"a": ("self",)}, choices=choices), "door", "to")
        only_nowhere = House([Kind("door", {"to": [""]}, {}, [("tell", [], "v")]), Kind("room", {}, {}, [])])
        self.assert_unlike(None, only_nowhere, "door", "to")

    def test_rings(self):
        """The thing may stand behind its own link, alone or with others."""
        self.assert_unlike(None, ring_house(send([]), choices=["k"]), "k", "to")
        self.assert_unlike(None, ring_house(send([], wraps=True), choices=["k", ""]), "k", "to")
        self.assert_unlike(None, ring_house(send(["a"], "", "try"), ("tell", ["a"], "v")), "k", "to")
        # The thing at the end of the path may be the same one; the path is another.
        paths = ring_house(send(["a"], "b"), ("give", ["b"], "to", "last"), choices=["k"])
        self.assert_unlike("a", paths, "k", "to")
        self.assert_unlike("b", paths, "k", "to", ["b"])
        swapping = ring_house(("tell", ["a"], "v"), send(["b"], "b"), send([], "a"), choices=["k"])
        self.assert_unlike(None, swapping, "k", "to")
        kinds = [Kind("k", {"to": ["l"]}, {}, [send([], "", "last")]),
                 Kind("l", {"to": ["k", ""]}, {}, [send([], "", "try"), ("tell", ["a"], "v"), ("self", [])])]
        self.assert_unlike("", House(kinds), "k", "to")
        self.assert_unlike(None, House(kinds), "k", "to", ["a"])
        self.assert_unlike(None, House(kinds), "k", "to", bare=True)

    def test_endless_behind_the_link(self):
        house = proxied([("tell", ["a"], "v"), send([])], {}, [send(["a"], link="on")])
        self.assert_unlike("a", house, "door", "to")
        self.assert_unlike(None, house, "door", "to", ["b"])

    def test_the_first_column_in_the_order_of_columns(self):
        house = proxied([("tell", ["c"], "v"), ("tell", ["a", "b"], "w"), ("tell", [], "u")])
        self.assert_unlike("", house, "door", "to")
        for names, column in [(["c", "b", "a"], "a"), (["c", "b"], "b"), (["c"], "c"), (["c", "z"], ""), (["z"], ""),
                              (["c", "c"], "c"), (["c", "b", "c", "b"], "b"), (["z", "y", "z"], ""), ([], None),
                              (list("abcdef"), ""), (list("abcabc"), "a")]:
            self.assert_unlike(column, house, "door", "to", names)
            self.assert_unlike(column, house, "door", "to", tuple(names))


class TestAgainstGraphs(TestUnlike):
    def assert_no_earlier(self, house, graphs, kind, link, bare):
        """No graph shows a column that comes before the one told; return whether some graph shows this one."""
        found = unlike(house, kind, link, bare=bare)
        column = None if found is None else found[0]
        self.assert_unlike(column, house, kind, link, bare=bare)
        columns = house.columns()
        shown = False
        for things in graphs:
            for index, (own_kind, links) in enumerate(things):
                if own_kind == kind and links[link] is not None:
                    for name in columns[:columns.index(column)] if column is not None else columns:
                        self.assertTrue(slow_follows(house, things, index, link, name, bare))
                    shown = shown or column is not None and not slow_follows(house, things, index, link, column, bare)
        return column is None or shown

    def test_small_graphs(self):
        shown = []
        for house in houses_in_bounds(31, 60, kinds="kl", most_links=1, most_rules=4):
            graphs = [things for many in (1, 2, 3) for things in all_things(house, many)]
            for kind, bare in itertools.product(house.kinds(), (False, True)):
                for link in house[kind].links():
                    shown.append(self.assert_no_earlier(house, graphs, kind, link, bare))
        self.assertGreater(sum(shown), len(shown) * 0.95)

    def test_drawn_graphs(self):
        chance = source(32)
        for house in houses_in_bounds(33, 50, kinds="klm", most_rules=4):
            graphs = [[graph[k] for k in range(len(graph))] for graph in draw_graphs(chance, house, 12)]
            for kind, bare in itertools.product(house.kinds(), (False, True)):
                for link in house[kind].links():
                    self.assert_no_earlier(house, graphs, kind, link, bare)

    def test_names_that_are_asked(self):
        """For some of the names the column is the first one of theirs that differs alone."""
        chance = source(34)
        for house in houses_in_bounds(35, 25, most_rules=4):
            for kind in house.kinds():
                for link in house[kind].links():
                    alone = {name: unlike(house, kind, link, [name]) for name in "pqz"}
                    for _ in range(6):
                        names = [chance.choice("pqz") for _ in range(chance.randint(0, 6))]
                        told = [house.column_of(name) for name in names if alone[name] is not None]
                        self.assert_unlike(min(told, default=None), house, kind, link, names)
                    # A name of the house may be missing in it: then p and q stand for "", too.
                    whole = unlike(house, kind, link)
                    told = [house.column_of(name) for name in "pqz" if alone[name] is not None]
                    self.assertEqual(whole and whole[0], min(told, default=None))


class TestErrors(Case):
    def setUp(self):
        self.house = House([door(), room()])

    def test_no_kind_comes_first(self):
        for wrong in ANYTHING + ["roof", ["door"], ("door",), nested(90), nested_tuple(90)]:
            self.assert_told(NoKind, wrong, unlike, self.house, wrong, "Wrong", "Wrong")
            self.assert_told(NoKind, wrong, unlike, sixty_one_rows(), wrong, "Wrong", "Wrong")

    def test_no_link_comes_second(self):
        for wrong in [x for x in ANYTHING if x != "to"] + ["on", ["to"], ("to",), "", nested(90)]:
            self.assert_told(NoLink, wrong, unlike, self.house, "door", wrong, "Wrong")
        self.assert_error(NoLink, "to", unlike, self.house, "room", "to", 0)
        self.assert_error(NoLink, "to", unlike, sixty_one_rows(), "k", "to", ["A"])

    def test_names_that_are_no_list(self):
        for house, kind, link in ((self.house, "door", "to"), (sixty_one_rows(), "l", "a")):
            for wrong in [x for x in ANYTHING if x is not None and not isinstance(x, (list, tuple))] + [["A"] * 7, ("a",) * 7]:
                self.assert_told(NoName, wrong, unlike, house, kind, link, wrong)

    def test_the_first_element_that_is_no_name(self):
        for wrong in NO_NAMES:
            self.assert_told(NoName, wrong, unlike, self.house, "door", "to", [wrong])
            self.assert_told(NoName, wrong, unlike, self.house, "door", "to", ("key", "zzz", wrong, "A", 0, ""))
            self.assert_told(NoName, wrong, unlike, sixty_one_rows(), "l", "a", [wrong, None])

    def test_too_many_comes_last(self):
        for names in (None, [], ["q"], list("abcdef")):
            for bare in (False, True):
                self.assert_error(TooMany, 60, unlike, sixty_one_rows(), "l", "a", names, bare=bare)
                self.assert_error(TooMany, 100, unlike, hundred_one_pairs(), "k", "a", names, bare=bare)

    def test_by_keyword_and_defaults(self):
        house = proxied([("give", ["a"], "to", "last"), send([])], {"a": ("self",)})
        self.assertIsNone(unlike(house, "door", "to", bare=True))
        self.assertIsNone(unlike(bare=True, link="to", names=None, kind="door", house=house))
        self.assertIsNone(unlike(house, "door", "to", names=["b"]))
        column, graph = unlike(house, "door", "to")
        more = {"house": house, "kind": "door", "link": "to"}
        self.assert_by_keyword((column, graph), unlike, **more)
        self.assert_by_keyword((column, graph), unlike, **more, names=["a"])
        self.assert_by_keyword((column, graph), unlike, **more, names=["a"], bare=False)
        with self.assertRaises(TypeError):
            unlike(house, "door", "to", None, True)

    def test_arguments_are_not_changed(self):
        names = ["lamp", "sign", "key", "lamp"]
        unlike(self.house, "door", "to", names)
        self.assertEqual(names, ["lamp", "sign", "key", "lamp"])

    def test_the_graph_shows_it_to_ask(self):
        column, graph = unlike(self.house, "door", "to", ["sign"])
        self.assertEqual([column, ask(graph, 0, "sign"), ask(graph, graph[0][1]["to"], "sign")],
                         ["sign", ("self",), ("refused",)])


if __name__ == "__main__":
    import unittest
    unittest.main()
