"""Points 3, 4 and 31 to 35: walks, in a graph and in all graphs."""

import unittest

from onwardasks.asks import ask, at
from onwardasks.behind import unlike
from onwardasks.errors import NoKind, NoLink, NoName, NoThing, TooMany
from onwardasks.graphs import Graph
from onwardasks.houses import House
from onwardasks.kinds import Kind
from onwardasks.lists import real
from onwardasks.panels import Panel
from onwardasks.walks import held, leak, verdict, walked
from tests.cases import Case, fits_bounds, houses_in_bounds
from tests.crowded import hundred_one_pairs, sixty_one_rows
from tests.drawn import draw_graphs, source
from tests.reference import all_things, slow_held, slow_hop, slow_leak
from tests.samples import ANYTHING, NO_NAMES_OR_EMPTY, STRINGS, door, nested, no_indexes, ring_house, room, send

R, S = ("refused",), ("self",)


def things_of(graph):
    return [graph[k] for k in range(len(graph))]


def chain_graph(many):
    """Return a chain of things that answer "on" the next one, "me" themselves, "far" the one at the end, "v" a value."""
    house = ring_house(("give", ["on"], "to", "last"), send(["far"], "", "try"), ("self", ["me", "far"]),
                       ("tell", ["v"], "w"))
    return Graph(house, [("k", {"to": k + 1}) for k in range(many - 1)] + [("k", {"to": None})])


class TestWalked(Case):
    def test_by_hand(self):
        graph = chain_graph(4)
        on, far = ("thing", ("to",)), ("thing", ("to",) * 3)
        self.assertEqual(walked(graph, 0, []), [])
        self.assertEqual(walked(graph, 0, ["on"]), [on])
        self.assertEqual(walked(graph, 0, ["v"]), [("value", "w")])
        self.assertEqual(walked(graph, 0, ["on", "me", "on", "me", "v"]), [on, S, on, S, ("value", "w")])
        self.assertEqual(walked(graph, 0, ["far", "far", "on"]), [far, S, R])
        self.assertEqual(walked(graph, 1, ["on", "on", "on", "on"]), [on, on, R])
        self.assertEqual(walked(graph, 0, ["far", "on"]), [far, R])

    def test_the_list_ends_behind_the_first_other_answer(self):
        graph = chain_graph(3)
        for names in (["v", "on"], ["v", "v"], ["v"] * 200):
            self.assertEqual(walked(graph, 0, names), [("value", "w")])
        for names in (["", "on"], ["zzz", "me", "on"]):
            self.assertEqual(walked(graph, 0, names), [R])
        ring = Graph(ring_house(send(["a"]), ("self", ["b"])), [("k", {"to": 0})])
        self.assertEqual(walked(ring, 0, ["b", "a", "b"]), [S, ("endless",)])

    def test_two_hundred_names(self):
        graph = chain_graph(300)
        on = ("thing", ("to",))
        self.assertEqual(walked(graph, 0, ["on"] * 200), [on] * 200)
        self.assertEqual(walked(graph, 0, ["me"] * 199 + ["v"]), [S] * 199 + [("value", "w")])
        self.assertEqual(walked(graph, 150, ("on",) * 200), [on] * 149 + [R])
        ring = Graph(ring_house(("give", [], "to", "last")), [("k", {"to": 0})])
        self.assertEqual(walked(ring, 0, ["", "a"] * 100), [on] * 200)

    def test_a_long_path(self):
        graph = chain_graph(3000)
        self.assertEqual(walked(graph, 0, ["far", "me"]), [("thing", ("to",) * 2999), S])

    def test_drawn(self):
        chance = source(51)
        lengths = set()
        for house in houses_in_bounds(52, 40, kinds="klm", names="pqr", most_rules=5):
            for graph in draw_graphs(chance, house, 8):
                names = [chance.choice(["", "p", "q", "r", "z"]) for _ in range(6)]
                index = chance.randrange(len(graph))
                found = walked(graph, index, names)
                here = index
                for place, answer in enumerate(found):
                    self.assertEqual(answer, ask(graph, here, names[place]))
                    end = slow_hop(house, things_of(graph), here, names[place])
                    self.assertEqual(end is None, answer[0] not in ("self", "thing"))
                    if end is not None:
                        self.assertEqual(end, at(graph, here, answer[1] if answer[0] == "thing" else ()))
                        here = end
                    else:
                        self.assertEqual(place, len(found) - 1)
                self.assertTrue(len(found) == 6 or end is None)
                lengths.add(len(found))
        self.assertEqual(lengths, {1, 2, 3, 4, 5, 6})

    def test_no_thing_comes_first(self):
        graph = chain_graph(3)
        for wrong in no_indexes(3):
            self.assert_told(NoThing, wrong, walked, graph, wrong, "Wrong")

    def test_names_that_are_no_list(self):
        for wrong in [x for x in ANYTHING if not isinstance(x, (list, tuple))] + [["A"] * 201, ("on",) * 201]:
            self.assert_told(NoName, wrong, walked, chain_graph(3), 0, wrong)

    def test_the_first_element_that_is_no_name(self):
        graph = chain_graph(3)
        for wrong in NO_NAMES_OR_EMPTY:
            self.assert_told(NoName, wrong, walked, graph, 0, [wrong, "A"])
            # All names are looked at, also those that are not asked.
            self.assert_told(NoName, wrong, walked, graph, 0, ("v", "", "zzz", wrong, None))
            self.assert_told(NoName, wrong, walked, graph, 0, ["on"] * 199 + [wrong])
        self.assertEqual(walked(graph, 0, STRINGS), [R])

    def test_by_keyword_and_new_lists(self):
        graph, names = chain_graph(3), ["on", "v"]
        expected = [("thing", ("to",)), ("value", "w")]
        self.assert_by_keyword(expected, walked, graph=graph, index=0, names=names)
        walked(graph, 0, names).clear()
        self.assertEqual(walked(graph, 0, names), expected)
        self.assertEqual(names, ["on", "v"])


class TestLeak(Case):
    def assert_leak(self, columns, house, kind):
        """leak returns these columns and a graph that shows the walk; or None. held agrees."""
        found = leak(house, kind)
        if columns is None:
            self.assertIsNone(found)
        else:
            self.assertIs(type(found), tuple)
            told, graph = found
            self.assertEqual(told, columns)
            self.assertIs(type(told), tuple)
            self.assertIs(type(graph), Graph)
            self.assertEqual(graph.house, house)
            self.assertEqual(graph[0][0], kind)
            here = 0
            for place, answer in enumerate(walked(graph, 0, columns)):
                here = at(graph, here, answer[1] if answer[0] == "thing" else ())
                self.assertEqual(house[graph[here][0]].hidden, place == len(columns) - 1)
        others = [other for other in held(house, kind) if other != kind and house[other].hidden]
        if others or not house[kind].hidden:
            self.assertEqual(found is None, not others)


class TestByHand(TestLeak):
    def test_no_hidden_kind(self):
        house = ring_house(("give", ["a"], "to", "last"), ("self", []))
        self.assert_leak(None, house, "k")
        self.assertEqual(held(house, "k"), ["k"])

    def test_a_hidden_thing_behind_a_proxy(self):
        secret = Kind("room", {}, {"me": ("self",)}, [], hidden=True)
        for wraps, columns in ((True, None), (False, ("me",))):
            proxy = Kind("door", {"to": ["room"]}, {}, [send([], "", "last", wraps)])
            house = House([proxy, secret])
            self.assert_leak(columns, house, "door")
            self.assertEqual(held(house, "door"), ["door"] if wraps else ["door", "room"])
            self.assert_leak(("me",), house, "room")
            self.assertEqual(held(house, "room"), ["room"])

    def test_the_asked_kind_is_hidden(self):
        quiet = House([Kind("k", {"to": ["k", ""]}, {}, [("tell", [], "v")], hidden=True)])
        self.assert_leak(None, quiet, "k")
        self.assertEqual(held(quiet, "k"), ["k"])
        ring = House([Kind("k", {"to": ["k", ""]}, {}, [("give", ["b", "c"], "to", "last")], hidden=True)])
        self.assert_leak(("b",), ring, "k")
        itself = House([Kind("k", {}, {"b": ("self",)}, [], hidden=True)])
        self.assert_leak(("b",), itself, "k")

    def test_a_walk_of_several_names(self):
        """Kinds k, l, m, n: each hands out the next one, n is hidden."""
        kinds = [Kind("k", {"on": ["l"]}, {"a": ("self",), "d": ("link", "on")}, []),
                 Kind("l", {"on": ["m"]}, {"a": ("self",), "c": ("link", "on")}, []),
                 Kind("m", {"on": ["n"]}, {"a": ("self",), "b": ("link", "on")}, []),
                 Kind("n", {}, {}, [], hidden=True)]
        house = House(kinds)
        for kind, columns in [("k", ("d", "c", "b")), ("l", ("c", "b")), ("m", ("b",)), ("n", None)]:
            self.assert_leak(columns, house, kind)
        self.assertEqual([held(house, kind) for kind in "klmn"], [list("klmn"), list("lmn"), list("mn"), ["n"]])

    def test_the_first_among_the_shortest(self):
        """The walk (b, a) is as short as (a, b) and (a, c), and (c,) is shorter where there is such a thing."""
        def house(*more):
            return House([Kind("k", {"on": ["l"], "to": ["m"]}, {"a": ("link", "to"), "b": ("link", "on")}, []),
                          Kind("l", {"on": ["n"]}, {"a": ("link", "on")}, []),
                          Kind("m", {"on": ["n"]}, {"b": ("link", "on"), "c": ("link", "on")}, []),
                          Kind("n", {}, {}, list(more), hidden=True)])
        self.assert_leak(("a", "b"), house(), "k")
        other = house().with_kind(Kind("m", {"on": ["n"]}, {"c": ("link", "on")}, []))
        self.assert_leak(("a", "c"), other, "k")
        self.assert_leak(("b", "a"), house().with_kind(Kind("m", {"on": ["n"]}, {}, [])), "k")
        sent = Kind("k", {"on": ["l"], "to": ["m"]}, {"a": ("link", "to")}, [send(["c"], "a", link="on")])
        self.assert_leak(("c",), house().with_kind(sent), "k")

    def test_the_column_of_all_other_names_comes_first(self):
        secret = Kind("l", {}, {}, [], hidden=True)
        self.assert_leak(("",), House([Kind("k", {"to": ["l"]}, {}, [("give", [], "to", "last")]), secret]), "k")
        kinds = [Kind("k", {"to": ["l", "k"]}, {}, [("bar", ["a"]), ("give", [], "to", "last")]), secret]
        self.assert_leak(("",), House(kinds), "k")

    def test_each_thing_of_a_walk_goes_through_other_things(self):
        """The walk leads through values of other things: what is handed out depends on what is refused below."""
        kinds = [Kind("k", {"a": ["k", ""], "b": ["l"]}, {},
                      [send(["p"], "q", "try", link="a"), ("give", ["p"], "b", "last"), ("give", ["r"], "a", "last"),
                       ("tell", ["q"], "v")]),
                 Kind("l", {}, {}, [], hidden=True)]
        house = House(kinds)
        self.assert_leak(("p",), house, "k")
        # "p" hands out the hidden thing only where nothing is below, and that is reached by "r".
        first = Kind("m", {"a": ["k"]}, {}, [("give", ["q"], "a", "last")])
        self.assert_leak(("q", "p"), House(kinds + [first]), "m")

    def test_walks_lead_through_hidden_things(self):
        kinds = [Kind("k", {"on": ["l"]}, {"a": ("link", "on")}, []),
                 Kind("l", {"on": ["m"]}, {"b": ("link", "on")}, [], hidden=True), Kind("m", {}, {}, [])]
        self.assertEqual(held(House(kinds), "k"), ["k", "l", "m"])
        self.assert_leak(("a",), House(kinds), "k")

    def test_only_real_rows_count(self):
        """In a ring nothing is handed out: it would only hold itself up."""
        kinds = [Kind("k", {"to": ["k"]}, {}, [send(["a"])]), Kind("l", {}, {"a": ("self",)}, [], hidden=True)]
        self.assert_leak(None, House(kinds), "k")
        self.assertEqual(held(House(kinds), "k"), ["k"])


def handing_house(chance):
    """Return a house of things that often hand out the one at their link; the last kind is hidden."""
    kinds = []
    for name in "klm":
        rules = [chance.choice([("give", [asked], "a", "try"), send([asked], chance.choice("pqr"), "try", link="a")])
                 for asked in chance.sample("pqr", chance.randint(0, 2))]
        kinds.append(Kind(name, {"a": chance.sample("klm", chance.randint(1, 2))}, {}, rules, hidden=name == "m"))
    return House(kinds)


class TestAgainstGraphs(TestLeak):
    def with_hidden(self, chance, house):
        """Return the house with some of its kinds hidden."""
        for name in house.kinds():
            kind = house[name]
            house = house.with_kind(Kind(name, kind.links(), kind.own(), kind.rules(), hidden=chance.random() < 0.4))
        return house

    def assert_leaks(self, house, graphs):
        """No graph shows an earlier walk; return the lengths of the walks told, and how many of all graphs show."""
        lengths, shown, kinds_shown, kinds_told = [], 0, 0, 0
        for kind in house.kinds():
            found = leak(house, kind)
            columns = None if found is None else found[0]
            self.assert_leak(columns, house, kind)
            walks, ends = [], {kind}
            for things in graphs:
                for index in range(len(things)):
                    if things[index][0] == kind:
                        walk = slow_leak(house, things, index, 2 if columns is None else len(columns))
                        if walk is not None:
                            walks.append((len(walk), walk))
                        ends |= slow_held(house, things, index)
            if columns is None:
                self.assertEqual(walks, [])
            elif walks:
                self.assertGreaterEqual(min(walks), (len(columns), columns))
            told = held(house, kind)
            self.assertIs(type(told), list)
            self.assertEqual(told, sorted(set(told)))
            self.assertLessEqual(ends, set(told))
            lengths.append(0 if columns is None else len(columns))
            shown += columns is None or min(walks, default=None) == (len(columns), columns)
            kinds_shown += len(ends)
            kinds_told += len(told)
        return lengths, shown, kinds_shown, kinds_told

    def test_small_graphs(self):
        chance = source(53)
        lengths, shown, ends, told = [], 0, 0, 0
        houses = [self.with_hidden(chance, house)
                  for house in houses_in_bounds(54, 40, kinds="klm", most_links=1, names="pq", most_rules=3)]
        for house in houses + [handing_house(chance) for _ in range(120)]:
            if not fits_bounds([house]):
                continue
            graphs = [things for many in (1, 2) for things in all_things(house, many)]
            graphs += [things_of(graph) for graph in draw_graphs(chance, house, 25, most=4)]
            more = self.assert_leaks(house, graphs)
            lengths += more[0]
            shown, ends, told = shown + more[1], ends + more[2], told + more[3]
        self.assertLessEqual({0, 1, 2}, set(lengths))
        self.assertGreater(shown, len(lengths) * 0.85)
        self.assertGreater(ends, told * 0.9)

    def test_drawn_graphs(self):
        chance = source(55)
        for house in houses_in_bounds(56, 40, kinds="klm", names="pqr", most_rules=4):
            house = self.with_hidden(chance, house)
            self.assert_leaks(house, [things_of(graph) for graph in draw_graphs(chance, house, 8, most=7)])


class TestVerdict(Case):
    def assert_verdict(self, expected, house, kind, link):
        """verdict returns what it asks for in its order."""
        found = verdict(house, kind, link)
        self.assertEqual(None if found is None else found[:2], expected)
        if found is None:
            return
        self.assertIs(type(found), tuple)
        word, column, graph = found
        self.assertEqual(graph.house, house)
        self.assertEqual(graph[0][0], kind)
        if word == "endless":
            self.assertEqual(ask(graph, 0, column), ("endless",))
        elif word == "unlike":
            self.assertEqual(column, unlike(house, kind, link)[0])
            below = graph[0][1][link]
            self.assertNotEqual((ask(graph, 0, column), ask(graph, below, column)), (R, R))
        else:
            self.assertEqual(walked(graph, 0, column)[-1][0] in ("self", "thing"), True)
            self.assertEqual(leak(house, kind)[0], column)

    def test_each_question(self):
        secret = Kind("room", {}, {"me": ("self",), "key": ("value", "k")}, [], hidden=True)
        def house(*rules, own=None):
            return House([Kind("door", {"to": ["room", "door"]}, own or {}, list(rules)), secret])
        self.assert_verdict(("endless", "me"), house(send(["me"]), send(["on"])), "door", "to")
        self.assert_verdict(("unlike", ""), House([Kind("door", {"to": ["room"]}, {}, [("tell", [], "v")]), secret]), "door", "to")
        self.assert_verdict(("unlike", "me"), House([Kind("door", {"to": ["room"]}, {}, [send([])]), secret]), "door", "to")
        self.assert_verdict(None, House([Kind("door", {"to": ["room"]}, {}, [send([], wraps=True)]), secret]), "door", "to")
        giving = Kind("room", {"on": ["room"]}, {"it": ("link", "on")}, [], hidden=True)
        self.assert_verdict(("leak", ("it",)), House([Kind("door", {"to": ["room"]}, {}, [send([], wraps=True)]), giving]),
                            "door", "to")

    def test_their_order(self):
        """A house for which the answer to all three questions is yes, at different columns."""
        secret = Kind("room", {"on": ["room"]}, {"it": ("link", "on")}, [], hidden=True)
        rules = [send(["c"], "c"), ("tell", ["b"], "v"), send([], wraps=True)]
        ringed = House([Kind("door", {"to": ["room", "door"]}, {}, rules), secret])
        self.assert_verdict(("endless", ""), ringed, "door", "to")
        secret_ring = Kind("room", {"on": ["room"]}, {"it": ("link", "on")}, [send(["c"], link="on")], hidden=True)
        ringed = House([Kind("door", {"to": ["room"]}, {}, rules), secret_ring])
        self.assert_verdict(("endless", "c"), ringed, "door", "to")
        self.assert_verdict(("unlike", "b"), House([ringed["door"], secret]), "door", "to")
        self.assert_verdict(("leak", ("it",)), House([Kind("door", {"to": ["room"]}, {}, rules[::2]), secret]), "door", "to")

    def test_the_first_endless_column(self):
        house = ring_house(send(["b", "d"]), ("self", ["c"]), ("bar", ["a"]))
        self.assert_verdict(("endless", "b"), house, "k", "to")
        self.assert_verdict(("endless", ""), ring_house(("self", ["a"]), send([])), "k", "to")
        # Only the asked kind counts.
        kinds = [Kind("l", {"to": ["k"]}, {}, []), Kind("k", {"to": ["k"]}, {}, [send([])])]
        self.assert_verdict(("unlike", ""), House(kinds), "l", "to")

    def test_drawn(self):
        words = set()
        for house in houses_in_bounds(57, 80, kinds="kl", most_rules=3):
            for name in house.kinds():
                kind = house[name]
                house = house.with_kind(Kind(name, kind.links(), kind.own(), kind.rules(), hidden=name == "l"))
            rows = real(Panel(house))
            for kind in house.kinds():
                endless = [column for position, column in enumerate(house.columns())
                           if any(row[0] == kind and row[1][position] == ("endless",) for row in rows)]
                for link in house[kind].links():
                    differs, out = unlike(house, kind, link), leak(house, kind)
                    expected = None
                    if endless:
                        expected = ("endless", endless[0])
                    elif differs is not None:
                        expected = ("unlike", differs[0])
                    elif out is not None:
                        expected = ("leak", out[0])
                    self.assert_verdict(expected, house, kind, link)
                    words.add(expected and expected[0])
        self.assertEqual(words, {"endless", "unlike", "leak", None})


class TestErrors(Case):
    def setUp(self):
        self.house = House([door(), room()])

    def test_no_kind_comes_first(self):
        for wrong in ANYTHING + ["roof", ["door"], ("door",), nested(90)]:
            for house in (self.house, sixty_one_rows()):
                self.assert_told(NoKind, wrong, leak, house, wrong)
                self.assert_told(NoKind, wrong, held, house, wrong)
                self.assert_told(NoKind, wrong, verdict, house, wrong, "Wrong")

    def test_no_link_comes_second(self):
        for wrong in [x for x in ANYTHING if x != "to"] + ["on", ["to"], ("to",), nested(90)]:
            self.assert_told(NoLink, wrong, verdict, self.house, "door", wrong)
        self.assert_error(NoLink, "to", verdict, self.house, "room", "to")
        self.assert_error(NoLink, "to", verdict, sixty_one_rows(), "k", "to")

    def test_too_many(self):
        for function in (leak, held):
            self.assert_too_many(function, "k")
        self.assert_error(TooMany, 60, verdict, sixty_one_rows(), "l", "a")
        self.assert_error(TooMany, 100, verdict, hundred_one_pairs(), "k", "a")

    def test_by_keyword(self):
        house = House([Kind("k", {"to": ["k"]}, {"a": ("link", "to")}, [], hidden=True)])
        self.assert_by_keyword(leak(house, "k"), leak, house=house, kind="k")
        self.assert_by_keyword(["k"], held, house=house, kind="k")
        self.assert_by_keyword(verdict(house, "k", "to"), verdict, house=house, kind="k", link="to")

    def test_lists_are_new(self):
        held(self.house, "door").clear()
        self.assertEqual(held(self.house, "door"), ["door"])


if __name__ == "__main__":
    unittest.main()
