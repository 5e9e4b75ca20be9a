"""Points 3, 4, 36 and 37: houses that are compared, and kinds with the rules of another one."""

from onwardasks.asks import ask
from onwardasks.errors import BadKind, NoKind, TooMany, Unlike
from onwardasks.graphs import Graph
from onwardasks.houses import House
from onwardasks.kinds import Kind
from onwardasks.likeness import parted, swapped
from onwardasks.lists import founded
from onwardasks.panels import Panel
from tests.cases import Case, fits_bounds, houses_in_bounds, pairs_in_bounds
from tests.crowded import hundred_one_pairs, hundred_pairs, sixty_one_rows
from tests.drawn import draw_graphs, source
from tests.reference import SlowAsk, all_things
from tests.samples import ANYTHING, door, plain_kind, ring_house, room, send


def names_of(one, other):
    """Return "" and the names that one of the houses names, ascending."""
    return [""] + sorted(set(one.names()) | set(other.names()))


def without_a_rule(chance, house):
    """Return the house without a rule of one of its kinds."""
    kind = house[chance.choice(house.kinds())]
    place = chance.randint(0, 5)
    rules = kind.rules()[:place] + kind.rules()[place + 1:]
    return house.with_kind(Kind(kind.name, kind.links(), kind.own(), rules))


class TestParted(Case):
    def assert_parted(self, expected, one, other):
        """parted returns this kind and column, and a graph that shows it; or None."""
        found = parted(one, other)
        if expected is None:
            self.assertIsNone(found)
            return
        self.assertIs(type(found), tuple)
        kind, column, graph = found
        self.assertEqual((kind, column), expected)
        self.assertIs(type(graph), Graph)
        self.assertEqual(graph.house, one)
        self.assertEqual(graph[0][0], kind)
        self.assertNotEqual(ask(graph, 0, column), ask(graph.over(other), 0, column))
        self.assertLessEqual(len(graph), len(founded(Panel(one, other))))
        things = [graph[k] for k in range(len(graph))]
        self.assertNotEqual(SlowAsk(one, things, 0, column).answer, SlowAsk(other, things, 0, column).answer)

    def assert_both(self, expected, one, other):
        self.assert_parted(expected, one, other)
        self.assert_parted(expected, other, one)

    def test_the_same_house_twice(self):
        for house in (House([door(), room()]), ring_house(), ring_house(send([])), House([plain_kind()])):
            self.assert_parted(None, house, house)
            self.assert_parted(None, house, House([house[kind] for kind in reversed(house.kinds())]))

    def test_by_an_entry(self):
        plain = ring_house(send(["a"], "", "try"), ("tell", ["a"], "v"))
        self.assert_both(("k", "a"), plain, ring_house(send(["a"], "", "try"), ("tell", ["a"], "w")))
        self.assert_both(("k", "a"), plain, ring_house(send(["a"], "", "try")))
        self.assert_both(("k", "a"), plain, ring_house(("tell", ["a"], "v")))
        self.assert_both(("k", ""), plain, ring_house(send([], "", "try"), ("tell", [], "v")))
        self.assert_both(None, plain, ring_house(send(["a"], "", "try"), ("tell", ["a", "b"], "v"), own={"b": ("self",)})
                         .with_kind(Kind("k", {"to": ["k", ""]}, {}, [send(["a"], "a", "try"), ("tell", ["a"], "v")])))

    def test_by_the_paths_alone(self):
        """Both houses answer a thing of the same kind, but by another path."""
        def house(link):
            return House([Kind("k", {"a": ["l"], "b": ["l"]}, {}, [("give", ["p"], link, "last")]), Kind("l", {}, {}, [])])
        self.assert_both(("k", "p"), house("a"), house("b"))
        longer = ring_house(send(["p"], "q"), ("give", ["q"], "to", "last"), choices=["k"])
        self.assert_both(("k", "p"), longer, ring_house(("give", ["p", "q"], "to", "last"), choices=["k"]))
        # Where the rules differ and the paths do not, the houses are alike.
        self.assert_both(None, ring_house(send(["p"], "q"), ("self", ["q"]), choices=["k"]),
                         ring_house(("give", ["p"], "to", "last"), ("self", ["q"]), choices=["k"]))

    def test_the_least_kind_and_then_the_first_name(self):
        def house(k_names, l_names):
            return House([Kind("k", {}, {}, [("self", [name]) for name in k_names]),
                          Kind("l", {}, {}, [("self", [name]) for name in l_names])])
        plain = house("", "")
        for k_names, l_names, expected in [("b", "a", ("k", "b")), ("ba", "a", ("k", "a")), ("", "cb", ("l", "b"))]:
            self.assert_both(expected, plain, house(k_names, l_names))
        self.assert_both(("l", "a"), house("a", ""), house("a", "a"))

    def test_names_that_only_one_of_the_houses_has(self):
        one, other = ring_house(("tell", [], "v")), ring_house(("tell", ["a"], "v"), ("tell", [], "v"))
        self.assert_both(None, one, other)
        self.assert_both(("k", "a"), one, ring_house(("bar", ["a"]), ("tell", [], "v")))
        self.assert_both(("k", ""), ring_house(("tell", ["a", "b"], "v")), ring_house(("tell", [], "v")))
        self.assert_both(("k", "b"), ring_house(("tell", ["a", "b"], "v")), ring_house(("tell", ["a", "c"], "v")))

    def test_rules_that_are_never_reached(self):
        rules = [("tell", ["a"], "v"), send([], "a", "try", True)]
        for place, rule in [(1, ("bar", ["a"])), (1, ("tell", ["a"], "w")), (2, ("bar", ["a"]))]:
            self.assert_both(None, ring_house(*rules), ring_house(*rules[:place], rule, *rules[place:]))
        # The name "" is sent on under "a".
        self.assert_both(("k", ""), ring_house(*rules), ring_house(("bar", ["a"]), *rules))
        hidden = ring_house(*rules, own={"a": ("value", "v")})
        self.assert_both(None, hidden, ring_house(*rules[1:], own={"a": ("value", "v")}))

    def test_hidden_flags_are_not_compared(self):
        one = House([Kind("k", {"to": ["k"]}, {}, [("give", [], "to", "last")], hidden=True)])
        other = House([Kind("k", {"to": ["k"]}, {}, [("give", [], "to", "last")], hidden=False)])
        self.assert_both(None, one, other)

    def test_a_ring_and_a_value(self):
        """Endless is an answer, too."""
        self.assert_both(("k", "a"), ring_house(send(["a"])), ring_house(("bar", ["a"])))
        self.assert_both(("k", "a"), ring_house(send(["a"]), choices=["k"]), ring_house(choices=["k"]))
        self.assert_both(None, ring_house(send(["a"]), choices=["k"]), ring_house(send(["a"], "", "try"), choices=["k"]))

    def test_small_graphs(self):
        """No small graph shows a difference that comes before the one told."""
        shown = differ = 0
        for one, other in pairs_in_bounds(41, 80, kinds="kl", most_links=1, most_rules=3):
            found = parted(one, other)
            expected = None if found is None else found[:2]
            self.assert_parted(expected, one, other)
            seen = set()
            for many in (1, 2, 3):
                for things in all_things(one, many):
                    for index, (kind, _) in enumerate(things):
                        for name in names_of(one, other):
                            if (kind, name) not in seen and (
                                    SlowAsk(one, things, index, name).answer != SlowAsk(other, things, index, name).answer):
                                seen.add((kind, name))
            if found is None:
                self.assertEqual(seen, set())
            elif seen:
                self.assertGreaterEqual(min(seen), expected)
            differ += found is not None
            shown += found is not None and min(seen, default=None) == expected
        self.assertGreater(shown, 40)
        self.assertGreater(shown, differ * 0.9)

    def test_drawn_graphs_of_alike_houses(self):
        chance = source(42)
        alike = 0
        for one in houses_in_bounds(43, 100, kinds="kl", most_rules=5):
            other = without_a_rule(chance, one)
            if not fits_bounds([one, other]):
                continue
            found = parted(one, other)
            self.assert_parted(None if found is None else found[:2], one, other)
            if found is None:
                alike += 1
                for graph in draw_graphs(chance, one, 10):
                    for k in range(len(graph)):
                        for name in names_of(one, other):
                            self.assertEqual(ask(graph, k, name), ask(graph.over(other), k, name))
        self.assertGreater(alike, 10)

    def test_unlike_and_then_too_many(self):
        house = ring_house()
        for other, kind in [(ring_house(choices=["k"]), "k"), (House([plain_kind("k")]), "k"),
                            (House([ring_house()["k"], plain_kind("l")]), "l"), (House([plain_kind("a")]), "a"),
                            (sixty_one_rows(), "k"), (hundred_one_pairs(), "k")]:
            self.assert_error(Unlike, kind, parted, house, other)
            self.assert_error(Unlike, kind, parted, other, house)
        for house, many in ((sixty_one_rows(), 60), (hundred_one_pairs(), 100)):
            self.assert_error(TooMany, many, parted, house, house)
        # Two houses with the same rows have them at twice the positions.
        self.assert_parted(None, hundred_pairs(), hundred_pairs())

    def test_by_keyword(self):
        one, other = ring_house(("tell", ["a"], "v")), ring_house()
        self.assert_by_keyword(parted(one, other), parted, one=one, other=other)


class TestSwapped(Case):
    def setUp(self):
        self.k = Kind("k", {"a": ["l"], "b": ["k", ""]}, {"p": ("link", "a")}, [send(["q"], link="b")], hidden=True)
        self.l = Kind("l", {"a": ["l"]}, {"p": ("value", "v")}, [send(["r"], link="a"), ("bar", [])])
        self.m = Kind("m", {}, {"q": ("self",)}, [("tell", ["p"], "w")])
        self.house = House([self.k, self.l, self.m])

    def test_by_hand(self):
        expected = Kind("k", self.k.links(), self.l.own(), self.l.rules(), hidden=True)
        self.assertEqual(swapped(self.house, "k", "l"), House([expected, self.l, self.m]))
        expected = Kind("l", self.l.links(), self.m.own(), self.m.rules())
        self.assertEqual(swapped(self.house, "l", "m"), House([self.k, expected, self.m]))
        self.assertEqual(swapped(self.house, "l", "m").names(), ["p", "q"])

    def test_the_hidden_flag_stays(self):
        self.assertTrue(swapped(self.house, "k", "m")["k"].hidden)
        hidden = self.house.with_kind(Kind("m", {}, {}, [], hidden=True))
        self.assertFalse(swapped(hidden, "l", "m")["l"].hidden)
        self.assertTrue(swapped(hidden, "l", "m")["m"].hidden)

    def test_with_itself(self):
        for kind in "klm":
            self.assertEqual(swapped(self.house, kind, kind), self.house)

    def test_links_that_the_first_kind_does_not_have(self):
        self.assert_error(BadKind, "own", swapped, self.house, "m", "k")
        self.assert_error(BadKind, "rules", swapped, self.house, "l", "k")
        self.assert_error(BadKind, "rules", swapped, self.house, "m", "l")
        own = self.house.with_kind(Kind("m", {"c": ["m"]}, {"p": ("link", "c")}, [send(["q"], link="c")]))
        self.assert_error(BadKind, "own", swapped, own, "k", "m")
        # The link is looked for by its name alone: where it may lead does not matter.
        other_ends = self.house.with_kind(Kind("m", {"a": ["", "m"]}, {"p": ("link", "a")}, [("give", [], "a", "try")]))
        self.assertEqual(swapped(other_ends, "l", "m")["l"].links(), {"a": ("l",)})

    def test_no_kind(self):
        for wrong in ANYTHING + ["roof", ["k"], ("k",), "K"]:
            self.assert_told(NoKind, wrong, swapped, self.house, wrong, "Wrong")
            self.assert_told(NoKind, wrong, swapped, self.house, "m", wrong)

    def test_by_keyword(self):
        self.assert_by_keyword(swapped(self.house, "k", "l"), swapped, house=self.house, kind="k", other="l")


if __name__ == "__main__":
    import unittest
    unittest.main()
