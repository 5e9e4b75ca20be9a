"""Points 3, 4 and 11: Graph and over."""

import copy
import unittest

from onwardasks.errors import AskError, BadGraph, NoThing, Unlike
from onwardasks.graphs import Graph
from onwardasks.houses import House
from onwardasks.kinds import Kind
from tests.drawn import draw_graph, draw_house, source
from tests.samples import ANYTHING, NO_DICTS, NO_LISTS, door, nested, no_indexes, ring_house, room

EXAMPLE = [("door", {"to": 1}), ("room", {}), ("door", {"to": None})]


def example_house():
    return House([door(), room()])


def example():
    return Graph(example_house(), EXAMPLE)


def two_links():
    """Return a house in which each way to choose the choices occurs."""
    return House([Kind("k", {"a": ["k", "l"], "b": ["", "l"]}, {}, []), Kind("l", {"a": ["k"]}, {}, []),
                  Kind("m", {}, {}, [])])


class TestGraph(unittest.TestCase):
    def test_example(self):
        graph = example()
        self.assertEqual(len(graph), 3)
        self.assertEqual([graph[k] for k in range(3)], EXAMPLE)
        self.assertEqual(graph.house, example_house())

    def test_one_thing(self):
        graph = Graph(example_house(), [("room", {})])
        self.assertEqual(len(graph), 1)
        self.assertEqual(graph[0], ("room", {}))
        self.assertEqual(Graph(example_house(), [("door", {"to": None})])[0], ("door", {"to": None}))

    def test_a_thing_that_leads_to_itself(self):
        self.assertEqual(Graph(ring_house(), [("k", {"to": 0})])[0], ("k", {"to": 0}))

    def test_rings(self):
        things = [("k", {"a": 1, "b": None}), ("l", {"a": 2}), ("k", {"a": 0, "b": 1})]
        graph = Graph(two_links(), things)
        self.assertEqual([graph[k] for k in range(3)], things)

    def test_many_things(self):
        things = [("k", {"to": (7 * k + 3) % 5000}) for k in range(5000)]
        graph = Graph(ring_house(), things)
        self.assertEqual(len(graph), 5000)
        self.assertEqual([graph[k] for k in range(5000)], things)

    def test_lists_and_tuples_are_the_same(self):
        for form in (EXAMPLE, tuple(EXAMPLE), [list(thing) for thing in EXAMPLE], tuple(map(list, EXAMPLE))):
            graph = Graph(example_house(), form)
            self.assertTrue(graph == example())
            for k in range(3):
                self.assertIs(type(graph[k]), tuple)
                self.assertEqual(graph[k], EXAMPLE[k])

    def test_house_is_a_property(self):
        self.assertIs(type(vars(Graph)["house"]), property)
        self.assertIs(type(example().house), House)
        with self.assertRaises(AttributeError):
            example().house = example_house()

    def test_listed_methods_stand_in_the_class(self):
        for name in ("house", "over", "__len__", "__getitem__", "__eq__"):
            self.assertIn(name, vars(Graph))

    def test_no_thing(self):
        for graph in (example(), Graph(ring_house(), [("k", {"to": 0})])):
            for index in no_indexes(len(graph)):
                with self.assertRaises(NoThing) as caught:
                    graph[index]
                self.assertIs(caught.exception.what, index)

    def test_a_graph_is_not_iterated_over(self):
        with self.assertRaises(TypeError):
            list(example())


class TestBadGraph(unittest.TestCase):
    def assert_bad(self, index, house, things):
        forms = [things]
        if type(things) is list:
            forms += [tuple(things), [list(thing) if type(thing) is tuple else thing for thing in things]]
        for form in forms:
            with self.assertRaises(BadGraph) as caught:
                Graph(house, form)
            self.assertEqual(caught.exception.what, index)
            self.assertIsInstance(caught.exception, AskError)

    def test_no_list_and_empty(self):
        for things in NO_LISTS + [{0: ("room", {})}, "room", Graph(ring_house(), [("k", {"to": 0})])]:
            self.assert_bad(-1, example_house(), things)
        self.assert_bad(-1, example_house(), [])

    def test_what_is_no_pair(self):
        good = ("room", {})
        for thing in ANYTHING + [("room",), ("room", {}, {}), [{}], "ab", {"room": {}}, ({}, "room")]:
            self.assert_bad(0, example_house(), [thing])
            self.assert_bad(1, example_house(), [good, thing])
            self.assert_bad(1, example_house(), [good, thing, None, good])

    def test_what_is_no_kind_of_the_house(self):
        for kind in ANYTHING + ["rooms", "doo", "to", "key", ("room",), ["room"], b"room"]:
            self.assert_bad(0, example_house(), [(kind, {})])
            self.assert_bad(2, example_house(), [("room", {}), ("door", {"to": 0}), (kind, {})])

    def test_links_that_are_no_dict(self):
        for links in NO_DICTS:
            self.assert_bad(0, example_house(), [("room", links)])
            self.assert_bad(1, example_house(), [("room", {}), ("door", links)])

    def test_keys_that_are_not_exactly_the_links(self):
        for links in ({}, {"a": 0}, {"b": None}, {"a": 0, "b": None, "c": None}, {"a": 0, "c": None}, {"a": 0, 1: None},
                      {"a": 0, None: None}, {"a": 0, "": None}, {"a": 0, b"b": None}, {"a": 0, ("b",): None}):
            self.assert_bad(0, two_links(), [("k", links)])
            self.assert_bad(1, two_links(), [("m", {}), ("k", links)])
        for links in ({"a": 0}, {"": 0}, {None: None}, {0: 0}):
            self.assert_bad(0, two_links(), [("m", links)])

    def test_nowhere_where_it_is_not_allowed(self):
        self.assert_bad(0, two_links(), [("k", {"a": None, "b": None})])
        self.assert_bad(1, two_links(), [("k", {"a": 0, "b": None}), ("l", {"a": None})])

    def test_a_thing_of_a_kind_that_is_no_choice(self):
        self.assert_bad(0, two_links(), [("k", {"a": 1, "b": None}), ("m", {})])
        self.assert_bad(0, two_links(), [("k", {"a": 0, "b": 0})])
        self.assert_bad(1, two_links(), [("k", {"a": 0, "b": 1}), ("l", {"a": 1})])

    def test_values_that_are_no_index(self):
        for value in no_indexes(2):
            if value is not None:
                self.assert_bad(0, ring_house(), [("k", {"to": value}), ("k", {"to": 0})])
                self.assert_bad(1, ring_house(), [("k", {"to": 0}), ("k", {"to": value})])
                self.assert_bad(0, ring_house(choices=["k"]), [("k", {"to": value}), ("k", {"to": value})])

    def test_wrong_values_deep_inside(self):
        for deep in (nested(88), nested(88, inner=0)):
            self.assert_bad(0, ring_house(), [("k", {"to": deep})])
            self.assert_bad(0, ring_house(), [("k", deep)])
            self.assert_bad(0, ring_house(), [deep])

    def test_forms_come_before_values(self):
        bad_value, bad_form, good = ("k", {"to": 9}), ("k", {}), ("k", {"to": 0})
        self.assert_bad(2, ring_house(), [bad_value, good, bad_form])
        self.assert_bad(1, ring_house(), [good, bad_form, bad_value, bad_form])
        self.assert_bad(1, ring_house(), [good, bad_value, good, bad_value])
        self.assert_bad(3, ring_house(), [bad_value, bad_value, bad_value, None])

    def test_values_are_checked_against_the_kinds_of_later_things(self):
        self.assert_bad(0, two_links(), [("k", {"a": 2, "b": None}), ("l", {"a": 0}), ("m", {})])
        self.assertEqual(len(Graph(two_links(), [("k", {"a": 1, "b": 1}), ("l", {"a": 0}), ("m", {})])), 3)


class TestEqual(unittest.TestCase):
    def test_equal(self):
        same = Graph(example_house(), copy.deepcopy(EXAMPLE))
        self.assertTrue(example() == same)
        self.assertFalse(example() != same)

    def test_order_of_keys_has_no_meaning(self):
        one = Graph(two_links(), [("k", {"a": 0, "b": None})])
        two = Graph(two_links(), [("k", {"b": None, "a": 0})])
        self.assertTrue(one == two)

    def test_things_count(self):
        graph = Graph(ring_house(), [("k", {"to": 0}), ("k", {"to": None})])
        for things in ([("k", {"to": 0}), ("k", {"to": 0})], [("k", {"to": 0})], [("k", {"to": None}), ("k", {"to": 0})],
                       [("k", {"to": 0}), ("k", {"to": None}), ("k", {"to": 0})]):
            other = Graph(ring_house(), things)
            self.assertFalse(graph == other)
            self.assertTrue(graph != other)
        self.assertFalse(Graph(two_links(), [("m", {})]) == Graph(two_links(), [("m", {}), ("m", {})]))

    def test_the_house_counts(self):
        things = [("k", {"to": 0})]
        self.assertFalse(Graph(ring_house(), things) == Graph(ring_house(("bar", [])), things))


class TestOver(unittest.TestCase):
    def test_over(self):
        graph = example()
        other = House([Kind("door", {"to": ["", "room"]}, {}, [("tell", [], "v")], hidden=True), Kind("room", {}, {}, [])])
        over = graph.over(other)
        self.assertEqual(over.house, other)
        self.assertEqual([over[k] for k in range(3)], EXAMPLE)
        self.assertEqual(graph, example())
        self.assertTrue(over == Graph(other, EXAMPLE))
        self.assertTrue(graph.over(house=example_house()) == graph)
        self.assertTrue(over.over(example_house()) == graph)

    def assert_unlike(self, kind, one, other):
        for first, second in ((one, other), (other, one)):
            things = None
            chance = source(1)
            while things is None:
                things = draw_graph(chance, first, 3)
            with self.assertRaises(Unlike) as caught:
                things.over(second)
            self.assertEqual(caught.exception.what, kind)

    def kinds_of(self, *links):
        return House([Kind(name, choices, {}, []) for name, choices in zip("abcd", links) if choices is not None])

    def test_a_kind_more(self):
        self.assert_unlike("b", self.kinds_of({}), self.kinds_of({}, {}))
        self.assert_unlike("a", self.kinds_of({}, {}), self.kinds_of(None, {}))
        self.assert_unlike("b", self.kinds_of({}, {}, {}), self.kinds_of({}, None, None, {}))
        self.assert_unlike("a", self.kinds_of({}), self.kinds_of(None, {}))

    def test_a_link_more_or_another_one(self):
        self.assert_unlike("a", self.kinds_of({}), self.kinds_of({"x": [""]}))
        self.assert_unlike("b", self.kinds_of({}, {"x": [""]}), self.kinds_of({}, {"x": [""], "y": [""]}))
        self.assert_unlike("b", self.kinds_of({}, {"x": ["a"]}), self.kinds_of({}, {"y": ["a"]}))

    def test_other_choices(self):
        self.assert_unlike("a", self.kinds_of({"x": ["a"]}), self.kinds_of({"x": ["a", ""]}))
        self.assert_unlike("b", self.kinds_of({}, {"x": ["a"]}), self.kinds_of({}, {"x": ["b"]}))
        self.assert_unlike("a", self.kinds_of({"x": ["a"], "y": [""]}), self.kinds_of({"x": [""], "y": ["a"]}))

    def test_the_least_kind_that_differs(self):
        one = self.kinds_of({}, {"x": [""]}, {"x": ["a"]})
        self.assert_unlike("b", one, self.kinds_of({}, {"x": ["b"]}, {"x": ["b"]}))
        self.assert_unlike("b", one, self.kinds_of({}, None, {"x": [""]}))
        self.assert_unlike("c", one, self.kinds_of({}, {"x": [""]}, None, {}))
        self.assert_unlike("a", one, self.kinds_of(None, {"x": [""]}, {"x": ["b"]}))

    def test_order_of_choices_and_links_has_no_meaning(self):
        one = House([Kind("a", {"x": ["a", ""], "y": [""]}, {}, [])])
        other = House([Kind("a", {"y": [""], "x": ["", "a"]}, {}, [])])
        self.assertEqual(Graph(one, [("a", {"x": 0, "y": None})]).over(other).house, other)

    def test_drawn(self):
        chance = source(11)
        for _ in range(50):
            house = draw_house(chance, kinds="klm")
            graph = draw_graph(chance, house, 5)
            if graph is not None:
                self.assertTrue(graph.over(house) == graph)


class TestCopies(unittest.TestCase):
    def test_every_argument_by_keyword(self):
        self.assertTrue(Graph(house=example_house(), things=EXAMPLE) == example())
        self.assertTrue(Graph(things=EXAMPLE, house=example_house()) == example())

    def test_arguments_are_not_changed(self):
        things = [["door", {"to": 1}], ("room", {})]
        house = example_house()
        graph = Graph(house, things)
        graph.over(example_house())
        self.assertEqual(things, [["door", {"to": 1}], ("room", {})])
        self.assertEqual(house, example_house())

    def test_later_changes_to_arguments_have_no_effect(self):
        things = [["door", {"to": 1}], ["room", {}]]
        graph = Graph(example_house(), things)
        things[0][1]["to"] = None
        things[1][1]["to"] = 1
        things[0][0] = "room"
        things.pop()
        self.assertEqual(len(graph), 2)
        self.assertEqual([graph[0], graph[1]], [("door", {"to": 1}), ("room", {})])

    def test_later_changes_to_what_was_returned_have_no_effect(self):
        graph = example()
        graph[0][1]["to"] = None
        graph[1][1]["more"] = 5
        self.assertTrue(graph == example())
        self.assertIsNot(graph[0][1], graph[0][1])
        over = graph.over(example_house())
        over[0][1].clear()
        self.assertTrue(over == example())


if __name__ == "__main__":
    unittest.main()
