"""Points 3, 4 and 42 to 45: two things as one."""

import itertools

from onwardasks.asks import ask
from onwardasks.chains import joined
from onwardasks.errors import BadKind, Bare, NoKind, NoLink
from onwardasks.graphs import Graph
from onwardasks.houses import House
from onwardasks.kinds import Kind, steps_at
from tests.cases import Case
from tests.drawn import draw_house, draw_things, source
from tests.reference import SlowAsk
from tests.samples import ANYTHING, NO_NAMES, door, nested, room, send


def slow_bare(house, kind, link, other):
    """Return the first column at which point 44 finds that b may be handed out, or None."""
    for column in house.columns():
        if is_bare(house, kind, link, other, column):
            return column
    return None


def is_bare(house, kind, link, other, column):
    for step in steps_at(house[kind], column):
        form = step[0]
        if form == "link":
            return step[1] == link
        if form == "value" or form in ("bar", "tell", "self"):
            return False
        manner = step[3] if form == "give" else step[4]
        if step[2] != link:
            if manner == "last":
                return False
            continue
        if form == "give":
            return True
        taken = taken_steps(steps_at(house[other], step[3] or column))
        answers_itself = any(below[0] == "self" or below[0] == "send" and below[5] for below in taken)
        if answers_itself and not step[5]:
            return True
        if manner == "last" or any(below[0] in ("tell", "self", "value") for below in taken):
            return False
    return False


def taken_steps(steps):
    taken = []
    for step in steps:
        taken.append(step)
        if step[0] not in ("give", "send") or step[3 if step[0] == "give" else 4] == "last":
            break
    return taken


def keys_of(house, kind, link, other):
    """Return the keys that the names of the new links must have."""
    return [(0, one) for one in house[kind].links() if one != link] + [(1, one) for one in house[other].links()]


class TestJoined(Case):
    def assert_kind(self, house, kind, link, other, names, new):
        """The new kind has the links, the number of rules and the names that it should have."""
        self.assertIs(type(new), Kind)
        self.assertFalse(new.hidden)
        expected = {names[(side, one)]: house[[kind, other][side]].links()[one] for side, one in names}
        self.assertEqual(new.links(), expected)
        most = len(house.columns()) * (len(house[kind].rules()) + 1) * (len(house[other].rules()) + 1)
        self.assertLessEqual(len(new.rules()), most)
        self.assertLessEqual(set(self.named(new)), set(house.names()))

    def named(self, kind):
        """Return the names that a kind names."""
        named = list(kind.own())
        for rule in kind.rules():
            named += list(rule[1]) + ([rule[3]] if rule[0] == "send" and rule[3] else [])
        return named

    def assert_same(self, house, link, names, things, a):
        """A new thing beside a answers as a does, by the renamed links."""
        kind, links = things[a]
        b = links[link]
        ends = {name: (links[one] if side == 0 else things[b][1][one]) for (side, one), name in names.items()}
        more = things + [("new", ends)]
        for asked in house.names() + ["", "z"]:
            answer = SlowAsk(house, things, a, asked).answer
            if answer[0] == "thing":
                path = answer[1]
                self.assertNotEqual(path, (link,))
                rest = (names[(1, path[1])],) + path[2:] if path[0] == link else (names[(0, path[0])],) + path[1:]
                answer = ("thing", rest)
            self.assertEqual(ask(Graph(self.over, more), len(things), asked), answer)
            self.seen.add(answer[:1])

    def assert_joined(self, chance, house, kind, link, other):
        """Compare with drawn graphs; return "bare", "links" or the number of graphs."""
        keys = keys_of(house, kind, link, other)
        names = dict(zip(keys, chance.sample(["x", "y", "z", "a", "b", "kind"], len(keys))))
        if len(keys) > 2:
            self.assert_error(BadKind, "links", joined, house, kind, link, other, "new", names)
            return "links"
        bare = slow_bare(house, kind, link, other)
        if bare is not None:
            self.assert_error(Bare, bare, joined, house, kind, link, other, "new", names)
            return "bare"
        new = joined(house, kind, link, other, "new", names)
        self.assertEqual(new.name, "new")
        self.assert_kind(house, kind, link, other, names, new)
        self.over = house.with_kind(new)
        compared = 0
        for _ in range(8):
            things = draw_things(chance, house, chance.randint(1, 5))
            for a, (one, links) in enumerate(things or []):
                if one == kind and links[link] is not None and things[links[link]][0] == other:
                    self.assert_same(house, link, names, things, a)
                    compared += 1
        return compared

    def test_drawn(self):
        chance = source(81)
        self.seen = set()
        found = {"bare": 0, "links": 0, "graphs": 0, "kinds": 0}
        for _ in range(400):
            house = draw_house(chance, kinds=chance.choice(["kl", "klm"]), most_rules=5)
            for kind in house.kinds():
                for link, choices in house[kind].links().items():
                    for other in choices:
                        if other:
                            result = self.assert_joined(chance, house, kind, link, other)
                            if isinstance(result, str):
                                found[result] += 1
                            else:
                                found["graphs"] += result
                                found["kinds"] += 1
        self.assertEqual(self.seen, {("value",), ("self",), ("refused",), ("endless",), ("thing",)})
        for word, least in (("bare", 100), ("links", 100), ("graphs", 500), ("kinds", 150)):
            self.assertGreater(found[word], least)

    def test_by_hand(self):
        house = House([door(), room()])
        # The door wraps: what the room answers itself for is answered by the new thing itself.
        new = joined(house, "door", "to", "room", "both", {})
        self.assertEqual([new.name, new.links(), new.hidden], ["both", {}, False])
        graph = Graph(house.with_kind(new), [("both", {}), ("door", {"to": 2}), ("room", {})])
        for name in ("key", "lamp", "me", "sign", "zzz", ""):
            self.assertEqual(ask(graph, 0, name), ask(graph, 1, name))

    def test_choices_and_hidden_kinds(self):
        kinds = [Kind("k", {"a": ["l"], "c": ["k", "l", ""]}, {}, [send([], link="a", wraps=True)], hidden=True),
                 Kind("l", {"a": ["", "k"]}, {}, [("give", [], "a", "try")], hidden=True)]
        new = joined(House(kinds), "k", "a", "l", "n", {(0, "c"): "a", (1, "a"): "c"})
        self.assertEqual(new.links(), {"a": ("", "k", "l"), "c": ("", "k")})
        self.assertFalse(new.hidden)

    def test_the_same_kind_twice(self):
        house = House([Kind("k", {"to": ["k", ""]}, {"b": ("value", "w")},
                            [send(["a"], "", "try", True), ("tell", ["a"], "v"), ("give", ["c"], "to", "try")])])
        # "c" hands out the thing at the link.
        self.assert_error(Bare, "c", joined, house, "k", "to", "k", "n", {(1, "to"): "on"})
        house = House([Kind("k", {"to": ["k", ""]}, {"b": ("value", "w")}, house["k"].rules()[:2])])
        new = joined(house, "k", "to", "k", "n", {(1, "to"): "on"})
        over = house.with_kind(new)
        for ends in ([1, 2, None, 2], [1, 2, 1, 2], [1, 1, None, 1], [1, 0, None, 0], [1, None, None, None]):
            things = [("k", {"to": end}) for end in ends[:3]] + [("n", {"on": ends[3]})]
            graph = Graph(over, things)
            for name in ("a", "b", "c", ""):
                self.assertEqual(ask(graph, 3, name), ask(graph, 0, name))

    def test_three_things_one_after_the_other(self):
        """A chain of three kinds, joined from the front and from the back."""
        k = Kind("k", {"to": ["l"]}, {"p": ("value", "v")}, [send(["q"], "r", "try", True), send([], wraps=True)])
        l = Kind("l", {"to": ["m"]}, {}, [("bar", ["s"]), send(["r"], "q", wraps=True), send([], wraps=True)])
        m = Kind("m", {"to": ["k", "m", ""]}, {"q": ("self",)}, [("give", ["r"], "to", "try"), ("tell", ["s"], "w"),
                                                                ("tell", ["r"], "u")])
        house = House([k, l, m])
        front = joined(house, "k", "to", "l", "kl", {(1, "to"): "on"})
        front = joined(House([front, m, k, l]), "kl", "on", "m", "klm", {(1, "to"): "to"})
        back = joined(house, "l", "to", "m", "lm", {(1, "to"): "on"})
        wide = Kind("k", {"to": ["lm", "l"]}, k.own(), k.rules())
        back = joined(House([wide, l, m, back]), "k", "to", "lm", "klm", {(1, "on"): "to"})
        for new in (front, back):
            self.assertEqual(new.links(), {"to": ("", "k", "m")})
            over = house.with_kind(new)
            for end in (None, 0, 2):
                things = [("k", {"to": 1}), ("l", {"to": 2}), ("m", {"to": end}), ("klm", {"to": end})]
                graph = Graph(over, things)
                for name in ("p", "q", "r", "s", "zzz"):
                    answer = ask(graph, 0, name)
                    if answer[0] == "thing":
                        self.assertEqual(answer[1][:2], ("to", "to"))
                        answer = ("thing", answer[1][2:])
                    self.assertEqual(ask(graph, 3, name), answer)

    def test_a_link_that_leads_elsewhere_too(self):
        """The new kind answers as a thing whose link leads to one of other, whatever else it may lead to."""
        kinds = [Kind("k", {"a": ["k", "l", "m", ""]}, {}, [send([], link="a", wraps=True)]),
                 Kind("l", {}, {"p": ("value", "v")}, []), Kind("m", {}, {"p": ("self",)}, [])]
        house = House(kinds)
        for other, answer in (("l", ("value", "v")), ("m", ("self",))):
            new = joined(house, "k", "a", other, "n", {})
            self.assertEqual(ask(Graph(house.with_kind(new), [("n", {})]), 0, "p"), answer)
        new = joined(house, "k", "a", "k", "n", {(1, "a"): "a"})
        self.assertEqual(new.links(), {"a": ("", "k", "l", "m")})

    def test_rules_for_all_names_and_for_some(self):
        """A name that the house does not name is sent on as it is, also where it was asked under another name."""
        kinds = [Kind("k", {"a": ["l"]}, {}, [send(["p"], "q", "try", link="a"), send([], "", "try", link="a"), ("bar", ["p"])]),
                 Kind("l", {"b": ["m", ""]}, {}, [send(["p"], "r", "try", link="b"), send([], "", "last", link="b")]),
                 Kind("m", {}, {"p": ("value", "vp"), "q": ("value", "vq"), "r": ("value", "vr")}, [("tell", [], "vz")])]
        house = House(kinds)
        new = joined(house, "k", "a", "l", "n", {(1, "b"): "a"})
        graph = Graph(house.with_kind(new), [("n", {"a": 1}), ("m", {}), ("n", {"a": None})])
        self.assertEqual([ask(graph, 0, name)[1] for name in ("p", "q", "r", "z", "")], ["vq", "vq", "vr", "vz", "vz"])
        self.assertEqual([ask(graph, 2, name) for name in ("p", "q", "z")], [("refused",)] * 3)

    def test_no_rules_and_many_rules(self):
        house = House([Kind("k", {"a": ["l"]}, {}, []), Kind("l", {}, {}, [])])
        new = joined(house, "k", "a", "l", "n", {})
        self.assertLessEqual(len(new.rules()), 1)
        self.assertEqual(ask(Graph(house.with_kind(new), [("n", {})]), 0, "p"), ("refused",))
        # Own answers alone: at most one rule for each column.
        house = House([Kind("k", {"a": ["l"], "b": ["k"]}, {"p": ("link", "b"), "q": ("value", "v")}, []),
                       Kind("l", {"c": ["l", ""]}, {"r": ("link", "c")}, [])])
        names = {(0, "b"): "x", (1, "c"): "y"}
        self.assert_kind(house, "k", "a", "l", names, joined(house, "k", "a", "l", "n", names))
        house = house.with_kind(Kind("k", house["k"].links(), {"p": ("link", "b")}, [send([], link="a")]))
        self.assert_kind(house, "k", "a", "l", names, joined(house, "k", "a", "l", "n", names))
        # Two columns, 149 and 0 rules: at most 300 rules.
        many = House([Kind("k", {"a": ["l"], "b": ["k"]}, {}, [send(["p"], "", "try", link="ab"[k % 2]) for k in range(149)]),
                      Kind("l", {"c": ["l"]}, {"p": ("link", "c")}, [])])
        new = joined(many, "k", "a", "l", "n", {(0, "b"): "x", (1, "c"): "y"})
        self.assertLessEqual(len(new.rules()), 300)
        many = House([Kind("k", {"a": ["l"]}, {}, [send([], "", "try", link="a")] * 9),
                      Kind("l", {"c": ["l"]}, {}, [send([], "p", "try", link="c")] * 14)])
        new = joined(many, "k", "a", "l", "n", {(1, "c"): "y"})
        self.assertLessEqual(len(new.rules()), 300)
        self.assert_kind(many, "k", "a", "l", {(1, "c"): "y"}, new)


class TestBare(Case):
    def joined_at(self, rules, below_rules=(), *, own=None, below_own=None):
        """Join a kind with these own answers and rules for "p" and a kind behind its link "a"."""
        house = House([Kind("k", {"a": ["l"], "b": ["k"]}, own or {}, rules),
                       Kind("l", {"c": ["l", ""]}, below_own or {}, list(below_rules))])
        return joined(house, "k", "a", "l", "n", {(0, "b"): "b", (1, "c"): "c"})

    def assert_bare(self, column, *args, **more):
        self.assert_error(Bare, column, self.joined_at, *args, **more)

    def test_each_sort_of_step(self):
        self.assert_bare("p", [], own={"p": ("link", "a")})
        self.assert_bare("p", [("give", ["p"], "a", "try")])
        self.assert_bare("p", [("give", ["p"], "a", "last")])
        self.assert_bare("", [("give", [], "a", "last")])
        plain = send(["p"], link="a")
        for below, below_own in [([("self", ["p"])], {}), ([("self", [])], {}), ([], {"p": ("self",)}),
                                 ([send(["p"], link="c", wraps=True)], {}), ([send([], "", "try", True, "c")], {})]:
            self.assert_bare("p", [plain], below, below_own=below_own)
            self.assertIs(type(self.joined_at([send(["p"], link="a", wraps=True)], below, below_own=below_own)), Kind)
        for below, below_own in [([], {}), ([("bar", [])], {}), ([("tell", [], "v")], {}), ([], {"p": ("value", "v")}),
                                 ([], {"p": ("link", "c")}), ([("give", [], "c", "try")], {}), ([send([], link="c")], {}),
                                 ([("self", ["q"])], {}), ([], {"q": ("self",)})]:
            self.assertIs(type(self.joined_at([plain], below, below_own=below_own)), Kind)

    def test_steps_that_end_the_going_through(self):
        give = ("give", ["p"], "a", "last")
        for rule in [("bar", ["p"]), ("tell", ["p"], "v"), ("self", ["p"]), ("give", ["p"], "b", "last"),
                     send(["p"], link="b"), send(["p"], "q", "last", True, "b"), ("bar", [])]:
            self.assertIs(type(self.joined_at([rule, give])), Kind)
            self.assert_bare("p", [give, rule])
        for own in (("value", "v"), ("self",), ("link", "b")):
            self.assertIs(type(self.joined_at([give], own={"p": own})), Kind)
        for rule in [("give", ["p"], "b", "try"), send(["p"], "", "try", link="b"), ("bar", ["q"]), ("tell", ["q"], "v")]:
            self.assert_bare("p", [rule, give])

    def test_sends_that_end_the_going_through(self):
        give = ("give", ["p"], "a", "try")
        for below, below_own, ends in [
                ([("tell", [], "v")], {}, True), ([("self", [])], {}, True), ([], {"p": ("value", "v")}, True),
                ([], {"p": ("self",)}, True), ([], {"p": ("link", "c")}, False), ([("bar", [])], {}, False), ([], {}, False),
                ([("give", [], "c", "try"), ("tell", [], "v")], {}, True), ([("give", [], "c", "last"), ("tell", [], "v")], {}, False),
                ([send([], link="c"), ("tell", [], "v")], {}, False), ([send([], "", "try", link="c"), ("self", [])], {}, True),
                ([("bar", ["p"]), ("tell", [], "v")], {}, False), ([("give", [], "c", "try")], {}, False)]:
            for manner in ("try", "last"):
                rules = [send(["p"], "", manner, True, "a"), give]
                if ends or manner == "last":
                    self.assertIs(type(self.joined_at(rules, below, below_own=below_own)), Kind)
                else:
                    self.assert_bare("p", rules, below, below_own=below_own)

    def test_only_steps_that_are_taken_count(self):
        self.assertIs(type(self.joined_at([send(["p"], link="a")], [("bar", []), ("self", [])])), Kind)
        self.assertIs(type(self.joined_at([send(["p"], link="a")], [("give", [], "c", "last"), ("self", [])])), Kind)
        self.assert_bare("p", [send(["p"], link="a")], [("give", [], "c", "try"), ("self", [])])

    def test_the_column_that_is_asked(self):
        self.assert_bare("p", [send(["p"], "q", link="a")], [("self", ["q"])])
        self.assertIs(type(self.joined_at([send(["p"], "q", link="a")], [("self", ["p"])])), Kind)

    def test_the_first_column(self):
        rules = [("give", [name], "a", "last") for name in "cba"]
        self.assert_bare("a", rules)
        self.assert_bare("b", [("bar", ["a"])] + rules)
        self.assert_bare("", rules + [("give", [], "a", "last")])

    def test_bare_though_no_graph_shows_it(self):
        """The thing b answers "p" itself only where its link leads nowhere, which it never does."""
        house = House([Kind("k", {"a": ["l"]}, {}, [send(["p"], link="a")]),
                       Kind("l", {"c": ["m"]}, {}, [("give", ["p"], "c", "try"), ("self", ["p"])]), Kind("m", {}, {}, [])])
        self.assert_error(Bare, "p", joined, house, "k", "a", "l", "n", {(1, "c"): "c"})


class TestErrors(Case):
    def setUp(self):
        self.house = House([Kind("k", {"a": ["l", ""], "b": ["k"]}, {}, [("give", [], "a", "last")]),
                            Kind("l", {"c": ["l", ""]}, {}, []), Kind("m", {"c": ["l"], "d": ["m"]}, {}, []),
                            Kind("o", {"a": ["m"], "b": ["o"]}, {}, [])])
        self.names = {(0, "b"): "x", (1, "c"): "y"}

    def test_no_kind_comes_first(self):
        for wrong in ANYTHING + ["roof", ["k"], ("k",)]:
            self.assert_told(NoKind, wrong, joined, self.house, wrong, "Wrong", "Wrong", "Wrong", None)

    def test_no_link(self):
        for wrong in ANYTHING + ["c", ["a"], ("a",), ""]:
            self.assert_told(NoLink, wrong, joined, self.house, "k", wrong, "Wrong", "Wrong", None)

    def test_no_kind_at_the_link(self):
        for wrong in ANYTHING + ["roof", "", "k", "m", ["l"], ("l",)]:
            self.assert_told(NoKind, wrong, joined, self.house, "k", "a", wrong, "Wrong", None)

    def test_name(self):
        for wrong in NO_NAMES:
            self.assert_error(BadKind, "name", joined, self.house, "k", "a", "l", wrong, None)

    def test_names(self):
        names = self.names
        wrong = [x for x in ANYTHING if not isinstance(x, dict)] + [
            {}, {(0, "b"): "x"}, {(1, "c"): "y"}, {**names, (0, "a"): "z"}, {**names, (1, "d"): "z"}, {**names, "b": "z"},
            {(0, "b"): "x", (1, "b"): "y"}, {(1, "b"): "x", (0, "c"): "y"}, {"b": "x", "c": "y"}, {(0, "b"): "x", (2, "c"): "y"},
            {(False, "b"): "x", (True, "c"): "y"}, {(0, "b"): "x", (True, "c"): "y"}, {(0, "b"): "x", (1, "c"): "x"},
            {(0, "b", 0): "x", (1, "c"): "y"}, {("0", "b"): "x", (1, "c"): "y"}, {0: "x", 1: "y"},
            [((0, "b"), "x"), ((1, "c"), "y")], {"to": 1, 0: 2}, {None: "x", (1, "c"): "y"}]
        wrong += [{(0, "b"): "x", (1, "c"): one} for one in NO_NAMES] + [{(0, "b"): one, (1, "c"): one} for one in NO_NAMES]
        for one in wrong:
            self.assert_error(BadKind, "links", joined, self.house, "k", "a", "l", "n", one)

    def test_more_than_two_links(self):
        names = {(0, "b"): "x", (1, "c"): "y", (1, "d"): "z"}
        self.assert_error(BadKind, "links", joined, self.house, "o", "a", "m", "n", names)
        self.assert_error(BadKind, "links", joined, self.house, "o", "a", "m", "n", {(1, "c"): "y", (1, "d"): "z"})

    def test_bare_comes_last(self):
        self.assert_error(Bare, "", joined, self.house, "k", "a", "l", "n", self.names)

    def test_by_keyword_and_arguments_are_not_changed(self):
        house = self.house.with_kind(Kind("k", self.house["k"].links(), {}, [send([], link="b")]))
        new = joined(house, "k", "a", "l", "n", self.names)
        self.assertEqual(self.names, {(0, "b"): "x", (1, "c"): "y"})
        more = {"house": house, "kind": "k", "link": "a", "other": "l", "name": "n", "names": self.names}
        for order in itertools.islice(itertools.permutations(more), 0, 720, 37):
            self.assertEqual(joined(**{one: more[one] for one in order}), new)
        self.assertEqual(joined(house, "k", "a", "l", "n", dict(reversed(list(self.names.items())))), new)
        self.assert_error(BadKind, "links", joined, house, "k", "a", "l", "n", {(0, "b"): "x", (1, "c"): nested(90)})


if __name__ == "__main__":
    import unittest
    unittest.main()
