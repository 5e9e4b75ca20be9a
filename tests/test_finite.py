"""Points 3, 4, 26 and 27: graphs for rows, and single asks in all graphs."""

from onwardasks.asks import depth
from onwardasks.errors import NoKind, NoName, NoRow, TooMany
from onwardasks.finite import answers, deep_graph, deepest, ends, graph_of
from onwardasks.graphs import Graph
from onwardasks.houses import House
from onwardasks.kinds import Kind
from onwardasks.lists import claims, founded, real, spread
from onwardasks.panels import Panel, row_of, seed
from tests.cases import Case, houses_in_bounds, pairs_in_bounds
from tests.crowded import hundred_one_pairs, hundred_pairs, sixty_one_rows
from tests.drawn import draw_graphs, source
from tests.reference import SlowAsk, all_things, as_endless, slow_deepest, slow_edges, slow_path_end, slow_row_of
from tests.samples import ANYTHING, NO_NAMES_OR_EMPTY, STRINGS, door, nested, ring_house, room, send

E, R, S = ("endless",), ("refused",), ("self",)
L = ("thing", "l")
WRONG_LEAST = [x for x in ANYTHING if type(x) is not int] + [0, -1, 61, 62, 2 ** 70, -2 ** 70, "1", [1], (1,)]


def listed(row):
    """Return a row with lists in the place of its tuples."""
    kind, entries, same = row
    return [kind, [list(entry) for entry in entries], [list(pair) for pair in same]]


def no_entries(panel, kind, entry):
    """Return a row with this entry everywhere."""
    return kind, tuple(entry for column in panel.columns()), ()


class TestGraphOf(Case):
    def assert_graphs(self, houses):
        """Each real row has its graph; return the greatest number of things."""
        panel = Panel(*houses)
        pairs = len(founded(panel))
        most = 0
        for row in real(panel):
            graph = graph_of(panel, row)
            self.assertIs(type(graph), Graph)
            self.assertEqual(graph.house, houses[0])
            self.assertEqual(row_of(panel, graph, 0), row)
            self.assertLessEqual(len(graph), pairs)
            most = max(most, len(graph))
        return most

    def test_the_example_of_point_15(self):
        panel = Panel(House([door(), room()]))
        self.assertEqual(self.assert_graphs(panel.houses()), 2)
        row = ("room", (R, ("value", "k"), ("value", "on"), S, R), ())
        self.assertEqual(graph_of(panel, row), Graph(panel.houses()[0], [("room", {})]))

    def test_drawn(self):
        most = [self.assert_graphs([house]) for house in houses_in_bounds(1, 120, kinds="klm", names="pqr", most_rules=5)]
        self.assertGreater(max(most), 5)

    def test_drawn_with_one_link(self):
        for house in houses_in_bounds(2, 120, kinds="kl", most_links=1, most_rules=6):
            self.assert_graphs([house])

    def test_drawn_pairs(self):
        for houses in pairs_in_bounds(3, 120):
            self.assert_graphs(houses)

    def test_rows_worked_out_slowly(self):
        for houses in pairs_in_bounds(4, 40):
            panel = Panel(*houses)
            for row in real(panel):
                graph = graph_of(panel, row)
                self.assertEqual(slow_row_of(houses, [graph[k] for k in range(len(graph))], 0), row)

    def test_as_many_pairs_as_are_allowed(self):
        self.assert_graphs([hundred_pairs()])

    def test_lists_in_the_place_of_tuples(self):
        for houses in pairs_in_bounds(5, 20):
            panel = Panel(*houses)
            for row in real(panel):
                given = listed(row)
                self.assertEqual(row_of(panel, graph_of(panel, given), 0), row)
                self.assertEqual(given, listed(row))

    def test_what_is_no_row(self):
        panel = Panel(House([door(), room()]))
        row = real(panel)[0]
        kind, entries, same = row
        wrong = ANYTHING + [
            row[:2], row + ((),), ("roof", entries, same), (kind, entries[1:], same), (kind, entries + (R,), same),
            (kind, (("thing", "roof"),) + entries[1:], same), (kind, (("refuse",),) + entries[1:], same),
            (kind, entries, ((0, 1),)), (kind, entries, ((0, 0),)), (kind, entries, nested(90)),
            (kind, nested(88), same), (nested(89), entries, same), (kind, [nested(87)] + list(entries[1:]), same)]
        for one in wrong:
            self.assertFalse(hasattr(self.error_of(NoRow, graph_of, panel, one), "what"))
        self.error_of(NoRow, graph_of, Panel(ring_house()), row)
        self.error_of(NoRow, graph_of, Panel(panel.houses()[0], panel.houses()[0]), row)

    def test_rows_that_are_not_whole_and_then_too_many(self):
        for house, many in ((sixty_one_rows(), 60), (hundred_one_pairs(), 100)):
            panel = Panel(house)
            for kind in panel.kinds():
                whole = no_entries(panel, kind, R)
                self.error_of(NoRow, graph_of, panel, seed(panel, kind))
                self.error_of(NoRow, graph_of, panel, (kind, (("unknown",),) + whole[1][1:], ()))
                self.error_of(NoRow, graph_of, panel, None)
                self.assert_error(TooMany, many, graph_of, panel, whole)
                self.assert_error(TooMany, many, graph_of, Panel(house, house), (kind, whole[1] * 2, ()))

    def test_whole_rows_that_are_not_real(self):
        for houses in pairs_in_bounds(6, 60):
            panel = Panel(*houses)
            rows = real(panel)
            for row in spread(panel) + [as_endless(row) for row in spread(panel)] + claims(panel):
                if row not in rows:
                    self.error_of(NoRow, graph_of, panel, row)

    def test_a_claim_that_only_a_ring_holds_up(self):
        kinds = [Kind("k", {"to": ["k", "l"]}, {}, [send(["p"], "p"), send([], "", "try", True), send([], "p", "try", True)]),
                 Kind("l", {"to": ["l"]}, {"p": ("self",)}, [send(["p", "q"], "p")])]
        panel = Panel(House(kinds))
        row = ("k", (S, L, E), ())
        self.assertIn(row, claims(panel))
        self.error_of(NoRow, graph_of, panel, row)
        self.assert_graphs(panel.houses())

    def test_by_keyword(self):
        panel = Panel(House([door(), room()]))
        row = real(panel)[1]
        self.assert_by_keyword(graph_of(panel, row), graph_of, panel=panel, row=row)


def entry_in(house, things, index, name):
    """Return the entry for the answer of a thing."""
    answer = SlowAsk(house, things, index, name).answer
    return ("thing", things[slow_path_end(things, index, answer[1])][0]) if answer[0] == "thing" else answer


class TestAnswers(Case):
    def test_the_example_of_point_15(self):
        house = House([door(), room()])
        self.assertEqual(answers(house, "door", "lamp"), [R, ("value", "on")])
        self.assertEqual(answers(house, "door", "sign"), [S])
        self.assertEqual(answers(house, "door", "key"), [R])
        self.assertEqual(answers(house, "room", "key"), [("value", "k")])
        self.assertEqual(answers(house, "room", "zzz"), [R])
        self.assertEqual(answers(house, "room", ""), [R])

    def test_of_small_graphs(self):
        """No graph shows another answer, and small graphs show nearly all."""
        shown = expected = 0
        for house in houses_in_bounds(11, 40, kinds="kl", most_links=1, most_rules=4):
            seen = {(kind, name): set() for kind in "kl" for name in ["", "p", "q", "z"]}
            for many in (1, 2, 3):
                for things in all_things(house, many):
                    for index, (kind, _) in enumerate(things):
                        for name in ["", "p", "q", "z"]:
                            seen[(kind, name)].add(entry_in(house, things, index, name))
            for (kind, name), entries in seen.items():
                told = answers(house, kind, name)
                self.assertEqual(told, sorted(set(told)))
                self.assertLessEqual(entries, set(told))
                self.assertEqual(ends(house, kind, name), E not in told)
                shown += len(entries)
                expected += len(told)
        self.assertGreater(shown, expected * 0.97)

    def test_of_drawn_graphs(self):
        chance = source(12)
        for house in houses_in_bounds(13, 40, kinds="klm", names="pqr", most_rules=5):
            told = {(kind, name): answers(house, kind, name) for kind in house.kinds() for name in house.columns()}
            self.assertTrue(all(told.values()))
            for graph in draw_graphs(chance, house, 10):
                things = [graph[k] for k in range(len(graph))]
                for index, (kind, _) in enumerate(things):
                    for name in house.columns():
                        self.assertIn(entry_in(house, things, index, name), told[(kind, name)])

    def test_endless_asks(self):
        house = ring_house(send(["a"]), ("self", ["b"]))
        self.assertEqual(answers(house, "k", "a"), [E, R])
        self.assertIs(ends(house, "k", "a"), False)
        self.assertIs(ends(house, "k", "b"), True)
        self.assertIs(ends(house, "k", "zzz"), True)
        always = ring_house(send([]), choices=["k"])
        self.assertEqual([answers(always, "k", name) for name in ("", "a")], [[E], [E]])
        self.assertEqual([deepest(always, "k", name) for name in ("", "a")], [-1, -1])


class TestDeepest(Case):
    def assert_deep(self, house, kind, name, expected):
        """The greatest depth is as expected, and deep_graph shows it, but nothing deeper."""
        self.assertEqual(deepest(house, kind, name), expected)
        most = 60 if expected is None else expected
        for least in sorted({1, 2, 7, most - 1, most, most + 1, 60} & set(range(1, 61))):
            if least > most:
                self.error_of(NoRow, deep_graph, house, kind, name, least)
            else:
                graph = deep_graph(house, kind, name, least)
                self.assertIs(type(graph), Graph)
                self.assertEqual(graph.house, house)
                self.assertEqual(graph[0][0], kind)
                self.assertGreaterEqual(depth(graph, 0, name), least)

    def test_by_hand(self):
        house = House([door(), room()])
        for kind, name, expected in [("door", "lamp", 2), ("door", "key", 1), ("door", "zzz", 2), ("door", "", 2),
                                     ("door", "sign", 1), ("room", "lamp", 1), ("room", "zzz", 1)]:
            self.assert_deep(house, kind, name, expected)

    def test_chains_without_bound(self):
        house = ring_house(send(["a"], "", "try"), ("tell", ["a"], "v"), send(["b"], "a"), ("give", ["c"], "to", "try"))
        for name, expected in [("a", None), ("b", None), ("c", 1), ("d", 1), ("", 1)]:
            self.assert_deep(house, "k", name, expected)

    def test_a_ring_that_is_not_reached(self):
        house = House([Kind("k", {"to": ["k", ""]}, {}, [send(["a"], "", "try"), ("tell", [], "v")]),
                       Kind("l", {"to": ["k"]}, {}, [send(["b"], "c")])])
        for kind, name, expected in [("k", "a", None), ("l", "b", 2), ("l", "a", 1), ("l", "zzz", 1)]:
            self.assert_deep(house, kind, name, expected)

    def test_endless_asks_do_not_count(self):
        # "a" ends only where the thing at the link answers "b", which goes no further.
        house = ring_house(send(["b"], "b", "try"), send(["a"], "b", "try"), ("self", ["b"]), choices=["k"])
        self.assertEqual(deepest(house, "k", "b"), -1)
        self.assertEqual(deepest(house, "k", "a"), -1)
        self.assert_deep(house, "k", "c", 1)
        for name in ("a", "b"):
            for least in (1, 2, 60):
                self.error_of(NoRow, deep_graph, house, "k", name, least)

    def test_one_name_after_the_other(self):
        names = "abcdef"
        rules = [send([one], other, "try") for one, other in zip(names, names[1:])]
        house = ring_house(*rules, ("tell", ["f"], "v"))
        for place, name in enumerate(names):
            self.assert_deep(house, "k", name, 6 - place)

    def test_the_deepest_of_several_asks_counts(self):
        kinds = [Kind("k", {"a": ["l"], "b": ["l", "m"]}, {}, [send(["p"], "q", "try", link="a"), send(["p"], "r", link="b")]),
                 Kind("l", {}, {}, [("tell", ["r"], "v")]),
                 Kind("m", {"a": ["l"]}, {}, [send(["r"], "r", link="a"), ("bar", ["q"])])]
        house = House(kinds)
        for name, expected in [("p", 3), ("q", 1), ("r", 1)]:
            self.assert_deep(house, "k", name, expected)

    def test_drawn(self):
        found = []
        for house in houses_in_bounds(14, 60, names="pqr", most_rules=6):
            rows = real(Panel(house))
            edges = slow_edges(house, rows)
            for kind in house.kinds():
                for position, column in enumerate(house.columns()):
                    starts = [node for node in edges if node[0][0] == kind and node[1] == position]
                    expected = slow_deepest(edges, starts)
                    found.append(expected)
                    self.assertEqual(deepest(house, kind, column), expected)
        for expected in (-1, 1, 2, 3, None):
            self.assertIn(expected, found)

    def test_drawn_deep_graphs(self):
        for house in houses_in_bounds(15, 25, most_rules=5) + houses_in_bounds(16, 15, kinds="klm", names="pqr"):
            for kind in house.kinds():
                for name in house.columns():
                    self.assert_deep(house, kind, name, deepest(house, kind, name))

    def test_no_drawn_graph_is_deeper(self):
        chance = source(17)
        shown = set()
        for house in houses_in_bounds(18, 60, most_rules=5):
            most = {(kind, name): deepest(house, kind, name) for kind in house.kinds() for name in house.columns()}
            for graph in draw_graphs(chance, house, 12):
                for k in range(len(graph)):
                    for name in house.columns():
                        deep, bound = depth(graph, k, name), most[(graph[k][0], name)]
                        if deep is not None and bound is not None:
                            self.assertLessEqual(deep, bound)
                            shown.add(deep == bound)
        self.assertEqual(shown, {True, False})


class TestErrors(Case):
    def setUp(self):
        self.house = House([door(), room()])

    def test_no_kind_comes_first(self):
        for function, more in ((answers, ()), (ends, ()), (deepest, ()), (deep_graph, (0,))):
            for wrong in ANYTHING + ["roof", ["door"], ("door",), "Door"]:
                self.assert_told(NoKind, wrong, function, self.house, wrong, "Wrong", *more)
                self.assert_told(NoKind, wrong, function, sixty_one_rows(), wrong, "Wrong", *more)

    def test_no_name_comes_second(self):
        for function, more in ((answers, ()), (ends, ()), (deepest, ()), (deep_graph, (0,))):
            for wrong in NO_NAMES_OR_EMPTY:
                self.assert_told(NoName, wrong, function, self.house, "door", wrong, *more)
            self.assert_error(NoName, "A", function, sixty_one_rows(), "k", "A", *more)

    def test_least(self):
        for wrong in WRONG_LEAST:
            for house, kind in ((self.house, "door"), (sixty_one_rows(), "k"), (hundred_one_pairs(), "k")):
                self.assertFalse(hasattr(self.error_of(NoRow, deep_graph, house, kind, "lamp", wrong), "what"))
        for least in (1, 2, 60):
            self.assert_too_many(deep_graph, "k", "q", least)
        self.error_of(NoRow, deep_graph, self.house, "door", "lamp", 3)

    def test_too_many(self):
        for function in (answers, ends, deepest):
            for name in ("", "q", "zzz"):
                self.assert_too_many(function, "k", name)

    def test_all_strings_that_are_names(self):
        for name in STRINGS:
            self.assertEqual(answers(self.house, "door", name), [R])

    def test_by_keyword(self):
        more = {"house": self.house, "kind": "door", "name": "lamp"}
        for function in (answers, ends, deepest):
            self.assert_by_keyword(function(self.house, "door", "lamp"), function, **more)
        self.assert_by_keyword(deep_graph(self.house, "door", "lamp", 2), deep_graph, **more, least=2)

    def test_lists_are_new(self):
        answers(self.house, "door", "lamp").clear()
        self.assertEqual(answers(self.house, "door", "lamp"), [R, ("value", "on")])
        self.assertIs(type(answers(self.house, "door", "lamp")), list)


if __name__ == "__main__":
    import unittest
    unittest.main()
