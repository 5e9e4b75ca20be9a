"""Points 3, 4 and 12 to 15: single asks in single graphs."""

import sys
import unittest

from onwardasks.asks import ask, at, depth, looked, sends, trail
from onwardasks.errors import NoName, NoPath, NoThing
from onwardasks.graphs import Graph
from onwardasks.houses import House
from onwardasks.kinds import Kind
from tests.drawn import draw_graphs, draw_house, source
from tests.reference import SlowAsk, TooLong, slow_path_end
from tests.samples import NO_LISTS, NO_NAMES_OR_EMPTY, STRINGS, ANYTHING, door, no_indexes, ring_house, room, send

FUNCTIONS = [ask, depth, sends, trail, looked]
MANY = 5000


def example():
    return Graph(House([door(), room()]), [("door", {"to": 1}), ("room", {}), ("door", {"to": None})])


def two_things(own, rules, below_own=None, below_rules=(), *, leads=True):
    """Return a graph in which thing 0 has these own answers and rules, and thing 1 stands at its link "to"."""
    top = Kind("top", {"to": ["below", ""]}, own, rules)
    below = Kind("below", {"on": ["below", "top", ""]}, below_own or {}, list(below_rules))
    return Graph(House([top, below]), [("top", {"to": 1 if leads else None}), ("below", {"on": 1})])


def chain(many, rules, *, last=None, own=None):
    """Return a graph of so many things of one kind in a row; the last one leads to last."""
    house = ring_house(*rules, own=own)
    return Graph(house, [("k", {"to": k + 1}) for k in range(many - 1)] + [("k", {"to": last})])


class TestExample(unittest.TestCase):
    def test_thing_0(self):
        graph = example()
        self.assertEqual(ask(graph, 0, "key"), ("refused",))
        self.assertEqual(ask(graph, 0, "lamp"), ("value", "on"))
        self.assertEqual(ask(graph, 0, "me"), ("self",))
        self.assertEqual(ask(graph, 0, "sign"), ("self",))
        self.assertEqual(ask(graph, 0, "zzz"), ("refused",))

    def test_thing_2(self):
        self.assertEqual(ask(example(), 2, "lamp"), ("refused",))

    def test_other_functions(self):
        graph = example()
        self.assertEqual([depth(graph, 0, name) for name in ("key", "lamp", "me", "sign", "zzz")], [1, 2, 2, 1, 2])
        self.assertEqual([sends(graph, 0, name) for name in ("key", "lamp", "me", "sign", "zzz")], [0, 1, 1, 0, 1])
        self.assertEqual(trail(graph, 0, "lamp"), [(0, "lamp"), (1, "lamp")])
        self.assertEqual(trail(graph, 0, "zzz"), [(0, ""), (1, "")])
        self.assertEqual(trail(graph, 2, "lamp"), [(2, "lamp")])
        self.assertEqual(looked(graph, 0, "lamp"), [(0, "to")])
        self.assertEqual(looked(graph, 0, "key"), [])
        self.assertEqual(looked(graph, 2, "lamp"), [(2, "to")])


class TestOneStep(unittest.TestCase):
    def assert_answers(self, answer, graph, names=("a",), index=0):
        for name in names:
            self.assertEqual(ask(graph, index, name), answer)

    def test_own_answers(self):
        self.assert_answers(("value", "v"), two_things({"a": ("value", "v")}, []))
        self.assert_answers(("self",), two_things({"a": ("self",)}, []))
        self.assert_answers(("thing", ("to",)), two_things({"a": ("link", "to")}, []))
        self.assert_answers(("refused",), two_things({"a": ("link", "to")}, [], leads=False))

    def test_rules_are_not_used_beside_an_own_answer(self):
        rules = [("tell", [], "w"), ("tell", ["a"], "w")]
        self.assert_answers(("value", "v"), two_things({"a": ("value", "v")}, rules))
        self.assert_answers(("refused",), two_things({"a": ("link", "to")}, rules, leads=False))

    def test_bar_tell_self(self):
        for rule, answer in ((("bar", ["a"]), ("refused",)), (("tell", ["a"], "v"), ("value", "v")),
                             (("self", ["a"]), ("self",))):
            self.assert_answers(answer, two_things({}, [rule, ("tell", [], "w")]))
            self.assert_answers(("value", "w"), two_things({}, [rule, ("tell", [], "w")]), names=("b", ""))
            self.assert_answers(answer, two_things({}, [(rule[0], []) + rule[2:]]), names=("a", "b", ""))

    def test_give(self):
        for manner in ("try", "last"):
            rules = [("give", ["a"], "to", manner), ("tell", [], "w")]
            self.assert_answers(("thing", ("to",)), two_things({}, rules))
            self.assert_answers(("value", "w"), two_things({}, rules), names=("b", ""))
        self.assert_answers(("value", "w"), two_things({}, [("give", [], "to", "try"), ("tell", [], "w")], leads=False))
        self.assert_answers(("refused",), two_things({}, [("give", [], "to", "last"), ("tell", [], "w")], leads=False))
        self.assert_answers(("refused",), two_things({}, [("give", [], "to", "try")], leads=False))

    def test_no_step_is_left(self):
        self.assert_answers(("refused",), two_things({}, []), names=("a", ""))
        self.assert_answers(("refused",), two_things({}, [("tell", ["b"], "v")]), names=("a", ""))

    def test_send_of_each_answer(self):
        for manner in ("try", "last"):
            for wraps in (True, False):
                rules = [send(["a"], "", manner, wraps), ("tell", [], "w")]
                failed = ("value", "w") if manner == "try" else ("refused",)
                for own, below_rules, answer in [
                        ({"a": ("value", "v")}, [], ("value", "v")),
                        ({}, [("tell", ["a"], "v")], ("value", "v")),
                        ({"a": ("self",)}, [], ("self",) if wraps else ("thing", ("to",))),
                        ({}, [("self", [])], ("self",) if wraps else ("thing", ("to",))),
                        ({"a": ("link", "on")}, [], ("thing", ("to", "on"))),
                        ({}, [("give", [], "on", "try")], ("thing", ("to", "on"))),
                        ({}, [send([], link="on")], ("endless",)),
                        ({}, [], failed),
                        ({}, [("bar", ["a"]), ("tell", [], "v")], failed)]:
                    self.assert_answers(answer, two_things({}, rules, own, below_rules))
                    self.assert_answers(("value", "w"), two_things({}, rules, own, below_rules), names=("b", ""))
                self.assert_answers(failed, two_things({}, rules, {"a": ("value", "v")}, leads=False))

    def test_send_under_another_name(self):
        below = {"a": ("value", "va"), "b": ("value", "vb"), "c": ("self",)}
        for name, under, answer in [("a", "", "va"), ("a", "a", "va"), ("a", "b", "vb"), ("b", "a", "va")]:
            self.assert_answers(("value", answer), two_things({}, [send([name], under)], below), names=(name,))
        graph = two_things({}, [send([], "b")], below)
        self.assert_answers(("value", "vb"), graph, names=("a", "b", "c", "", "zzz"))
        graph = two_things({}, [send([], "")], below)
        self.assert_answers(("refused",), graph, names=("", "zzz"))

    def test_several_steps(self):
        rules = [send(["a"], "b", "try"), send(["a"], "c", "try", True), ("give", ["a"], "to", "try")]
        self.assert_answers(("thing", ("to",)), two_things({}, rules))
        self.assert_answers(("self",), two_things({}, rules, {"c": ("self",)}))
        self.assert_answers(("thing", ("to",)), two_things({}, rules, {"b": ("self",), "c": ("self",)}))
        self.assert_answers(("refused",), two_things({}, rules, leads=False))
        rules[1] = send(["a"], "c", "last")
        self.assert_answers(("refused",), two_things({}, rules))

    def test_wrapping_keeps_paths(self):
        rules = [send([], "", "last", True)]
        self.assert_answers(("thing", ("to", "on")), two_things({}, rules, {"a": ("link", "on")}))

    def test_names_that_the_house_does_not_name(self):
        graph = two_things({}, [("tell", ["a"], "v"), send([])], {}, [("bar", ["b"]), ("tell", [], "w")])
        for name in ("", "zzz", "to", "top", "below", "abcdefgh", "v"):
            self.assert_answers(("value", "w"), graph, names=(name,))
            self.assertEqual(trail(graph, 0, name), [(0, ""), (1, "")])
        self.assert_answers(("value", "v"), graph, names=("a",))
        self.assert_answers(("refused",), graph, names=("b",))


class TestEndless(unittest.TestCase):
    def assert_endless(self, graph, index, name, trail_, looked_):
        self.assertEqual(ask(graph, index, name), ("endless",))
        self.assertIsNone(depth(graph, index, name))
        self.assertIsNone(sends(graph, index, name))
        self.assertEqual(trail(graph, index, name), trail_)
        self.assertEqual(looked(graph, index, name), looked_)

    def test_one_thing_that_asks_itself(self):
        for manner in ("try", "last"):
            graph = Graph(ring_house(send([], "", manner), ("tell", [], "v")), [("k", {"to": 0})])
            self.assert_endless(graph, 0, "a", [(0, "")], [(0, "to")])
            self.assert_endless(graph, 0, "", [(0, "")], [(0, "to")])

    def test_a_ring_at_several_columns(self):
        house = ring_house(send(["a"], "b"), send(["b"], "c"), send(["c"], "a"), send(["d"], "e"), ("tell", ["e"], "v"))
        graph = Graph(house, [("k", {"to": 0})])
        self.assert_endless(graph, 0, "a", [(0, "a"), (0, "b"), (0, "c")], [(0, "to")])
        self.assert_endless(graph, 0, "c", [(0, "c"), (0, "a"), (0, "b")], [(0, "to")])
        self.assertEqual(ask(graph, 0, "d"), ("value", "v"))
        self.assertEqual(ask(graph, 0, ""), ("refused",))

    def test_a_ring_of_many_things(self):
        graph = chain(MANY, [send([])], last=0)
        around = [(k % MANY, "") for k in range(1234, 1234 + MANY)]
        self.assert_endless(graph, 1234, "x", around, [(k, "to") for k in range(MANY)])

    def test_a_ring_of_many_things_at_several_columns(self):
        graph = chain(7, [send(["a"], "b"), send(["b"], "a"), send([])], last=0)
        around = [((3 + k) % 7, "ab"[k % 2]) for k in range(14)]
        self.assert_endless(graph, 3, "a", around, [(k, "to") for k in range(7)])
        self.assert_endless(graph, 3, "c", [((3 + k) % 7, "") for k in range(7)], [(k, "to") for k in range(7)])

    def test_a_thing_that_waits_for_a_ring_it_is_not_in(self):
        graph = chain(4, [send([])], last=2)
        self.assert_endless(graph, 0, "", [(k, "") for k in range(4)], [(k, "to") for k in range(4)])

    def test_no_ring_where_the_column_is_another_one(self):
        graph = Graph(ring_house(send(["a"], "b"), send(["b"], "c", wraps=True), ("self", ["c"])), [("k", {"to": 0})])
        self.assertEqual(ask(graph, 0, "a"), ("thing", ("to",)))
        self.assertEqual(ask(graph, 0, "b"), ("self",))
        self.assertEqual(depth(graph, 0, "a"), 3)

    def test_asking_again_what_has_ended_is_no_ring(self):
        graph = Graph(ring_house(send(["a"], "b", "try"), send(["a"], "b", "try"), ("tell", ["a"], "v")),
                      [("k", {"to": 0})])
        self.assertEqual(ask(graph, 0, "a"), ("value", "v"))
        self.assertEqual(sends(graph, 0, "a"), 2)

    def test_endless_behind_a_refused_trial(self):
        rules = [send(["a"], "b", "try"), send(["a"], "c", "try"), ("tell", ["a"], "v"), ("bar", ["b"]), send(["c"], "a")]
        graph = Graph(ring_house(*rules), [("k", {"to": 1}), ("k", {"to": 0})])
        self.assert_endless(graph, 0, "a", [(0, "a"), (1, "b"), (1, "c")], [(0, "to"), (1, "to")])

    def test_a_trial_does_not_save_from_an_endless_ask(self):
        rules = [send(["a"], "b", "try"), ("tell", ["a"], "v"), send(["b"], "b")]
        graph = Graph(ring_house(*rules), [("k", {"to": 1}), ("k", {"to": 2}), ("k", {"to": 2})])
        self.assert_endless(graph, 0, "a", [(0, "a"), (1, "b"), (2, "b")], [(0, "to"), (1, "to"), (2, "to")])

    def test_what_was_looked_at_before_counts_and_what_comes_behind_does_not(self):
        kinds = [Kind("k", {"a": ["k", ""], "b": ["k", ""]}, {},
                      [("give", ["x"], "a", "try"), send(["x"], "", "try", link="b"), send(["x"], "y", link="a"),
                       ("give", ["y"], "a", "last")])]
        graph = Graph(House(kinds), [("k", {"a": None, "b": 1}), ("k", {"a": None, "b": 0})])
        self.assertEqual(looked(graph, 0, "x"), [(0, "a"), (0, "b"), (1, "a"), (1, "b")])
        self.assertEqual(looked(graph, 0, "y"), [(0, "a")])
        graph = Graph(House(kinds), [("k", {"a": 1, "b": 0}), ("k", {"a": None, "b": 1})])
        self.assertEqual(looked(graph, 0, "x"), [(0, "a")])
        self.assertEqual(looked(graph, 1, "x"), [(1, "a"), (1, "b")])


class TestMeasures(unittest.TestCase):
    def test_depth_of_several_sends_is_that_of_the_deepest(self):
        rules = [send(["a"], "b", "try"), send(["a"], "d", "try"), send(["b"], "c"), send(["c"], "d")]
        graph = Graph(ring_house(*rules), [("k", {"to": 0})])
        self.assertEqual([depth(graph, 0, name) for name in "abcd"], [4, 3, 2, 1])
        self.assertEqual([sends(graph, 0, name) for name in "abcd"], [4, 2, 1, 0])
        self.assertEqual(trail(graph, 0, "a"), [(0, "a"), (0, "b"), (0, "c"), (0, "d")])

    def test_trail_tells_the_first_time_only(self):
        rules = [send(["a"], "c", "try"), send(["a"], "b", "try"), send(["b"], "c")]
        graph = Graph(ring_house(*rules), [("k", {"to": 0})])
        self.assertEqual(trail(graph, 0, "a"), [(0, "a"), (0, "c"), (0, "b")])
        self.assertEqual(sends(graph, 0, "a"), 3)

    def test_nothing_is_sent_to_nowhere(self):
        graph = Graph(ring_house(send([], "", "try"), ("tell", [], "v")), [("k", {"to": None})])
        self.assertEqual([depth(graph, 0, ""), sends(graph, 0, "")], [1, 0])
        self.assertEqual(looked(graph, 0, ""), [(0, "to")])
        self.assertEqual(trail(graph, 0, ""), [(0, "")])

    def test_looked_at_by_each_form(self):
        for own, rules, links in [
                ({"a": ("link", "x")}, [], ["x"]), ({"a": ("value", "v")}, [("give", [], "x", "try")], []),
                ({}, [("give", [], "y", "try"), ("give", [], "x", "try")], ["x", "y"]),
                ({}, [("give", [], "y", "last"), ("give", [], "x", "try")], ["y"]),
                ({}, [("bar", []), ("give", [], "x", "try")], []), ({}, [("self", []), ("give", [], "x", "try")], []),
                ({}, [send([], "", "try", link="y"), send([], "", "try", link="x")], ["x", "y"]),
                ({}, [send([], "", "last", link="y"), send([], "", "try", link="x")], ["y"])]:
            graph = Graph(House([Kind("k", {"x": [""], "y": [""]}, own, rules)]), [("k", {"x": None, "y": None})])
            self.assertEqual(looked(graph, 0, "a"), [(0, link) for link in links])

    def test_sends_doubled_at_each_thing(self):
        graph = chain(61, [send([], "", "try"), send([], "", "try")])
        self.assertEqual(sends(graph, 0, ""), 2 ** 61 - 2)
        self.assertGreater(sends(graph, 0, ""), 2 ** 60)
        self.assertEqual(depth(graph, 0, ""), 61)
        self.assertEqual(trail(graph, 0, "x"), [(k, "") for k in range(61)])

    def test_sends_doubled_in_a_long_chain(self):
        graph = chain(1500, [send([], "", "try"), send([], "", "try")])
        self.assertEqual(sends(graph, 0, ""), 2 ** 1500 - 2)

    def test_sends_of_several_tries_in_great_chains(self):
        """What fails is tried under one name after the other; the numbers follow from those of the next thing."""
        rules = [send(["a"], "", "try"), send(["a"], "b", "try"), send(["a"], "", "try"),
                 send(["b"], "a", "try"), send(["b"], "b", "try", True)]
        many = 1300
        graph = chain(many, rules)
        of_a = of_b = 0
        for _ in range(many - 1):
            of_a, of_b = 2 * (1 + of_a) + 1 + of_b, 2 + of_a + of_b
        self.assertEqual([sends(graph, 0, "a"), sends(graph, 0, "b"), sends(graph, 0, "c")], [of_a, of_b, 0])
        self.assertEqual([ask(graph, 0, "a"), depth(graph, 0, "a")], [("refused",), many])
        self.assertEqual(len(trail(graph, 0, "a")), 2 * many - 1)
        self.assertEqual(looked(graph, 0, "a"), [(k, "to") for k in range(many)])

    def test_sends_of_tries_above_an_answer_at_the_end_of_a_great_chain(self):
        # Each thing tries "b", which all refuse down to the end, and then "a", which the last one tells.
        house = House([Kind("k", {"to": ["k", "z"]}, {}, [send(["a", "b"], "b", "try"), send(["a"])]),
                       Kind("z", {}, {"a": ("value", "v")}, [])])
        many = 2000
        graph = Graph(house, [("k", {"to": k + 1}) for k in range(many - 1)] + [("z", {})])
        self.assertEqual(ask(graph, 0, "a"), ("value", "v"))
        self.assertEqual(sends(graph, 0, "b"), many - 1)
        self.assertEqual(sends(graph, 0, "a"), many - 1 + many * (many - 1) // 2)
        self.assertEqual(depth(graph, 0, "a"), many)

    def test_sends_with_three_hundred_rules(self):
        graph = chain(40, [send([], "", "try")] * 300)
        self.assertEqual(sends(graph, 0, ""), (300 ** 40 - 300) // 299)

    def test_sends_behind_each_other(self):
        graph = chain(3, [send(["a"], "", "try"), send(["a"], "b", "try"), send(["b"], "", "try")])
        # Thing 2 sends nothing; thing 1 sends a and b; thing 0 sends a (with 2 more) and b (with 1 more).
        self.assertEqual(sends(graph, 1, "a"), 2)
        self.assertEqual(sends(graph, 0, "a"), 5)
        self.assertEqual(trail(graph, 0, "a"), [(0, "a"), (1, "a"), (2, "a"), (2, "b"), (1, "b")])


class TestLongChains(unittest.TestCase):
    def test_a_value_from_far_away(self):
        house = House([Kind("k", {"to": ["k", "z"]}, {}, [send([])]), Kind("z", {}, {}, [("tell", [], "v")])])
        graph = Graph(house, [("k", {"to": k + 1}) for k in range(MANY - 1)] + [("z", {})])
        self.assertEqual(ask(graph, 0, "x"), ("value", "v"))
        self.assertEqual(depth(graph, 0, "x"), MANY)
        self.assertEqual(sends(graph, 0, "x"), MANY - 1)
        self.assertEqual(trail(graph, 0, "x"), [(k, "") for k in range(MANY)])
        self.assertEqual(looked(graph, 0, "x"), [(k, "to") for k in range(MANY - 1)])
        self.assertEqual(ask(graph, MANY - 1, "x"), ("value", "v"))

    def test_a_thing_from_far_away(self):
        graph = chain(MANY, [send([], "", "try"), ("self", [])])
        self.assertEqual(ask(graph, 0, ""), ("thing", ("to",) * (MANY - 1)))
        self.assertEqual(at(graph, 0, ("to",) * (MANY - 1)), MANY - 1)
        graph = chain(MANY, [send([], "", "try", True), ("self", [])])
        self.assertEqual(ask(graph, 0, ""), ("self",))

    def test_through_all_things_at_every_column(self):
        names = "abcdef"
        # Each thing is asked at each of six columns, then the next thing; the last one refuses.
        loop = Kind("k", {"on": ["k", ""], "me": ["k"]}, {},
                    [send([one], two, link="me") for one, two in zip(names, names[1:])] + [send(["f"], "a", link="on")])
        many = 2000
        graph = Graph(House([loop]), [("k", {"on": k + 1 if k < many - 1 else None, "me": k}) for k in range(many)])
        self.assertEqual(ask(graph, 0, "a"), ("refused",))
        self.assertEqual(depth(graph, 0, "a"), 6 * many)
        self.assertEqual(len(trail(graph, 0, "a")), 6 * many)
        self.assertEqual(len(looked(graph, 0, "a")), 2 * many)
        self.assertGreater(6 * many, 10 * sys.getrecursionlimit())


class TestAgainstPlainRecursion(unittest.TestCase):
    def test_drawn(self):
        chance = source(12)
        endless = things = compared = 0
        for _ in range(250):
            kinds = chance.choice(["k", "kl", "klm"])
            house = draw_house(chance, kinds=kinds, names="pqr", most_rules=5)
            for graph in draw_graphs(chance, house, 3):
                spec = [graph[k] for k in range(len(graph))]
                for index in range(len(graph)):
                    for name in house.columns() + ["zzz"]:
                        try:
                            slow = SlowAsk(house, spec, index, name)
                        except TooLong:
                            continue
                        self.assertEqual(ask(graph, index, name), slow.answer)
                        self.assertEqual(depth(graph, index, name), slow.depth)
                        self.assertEqual(sends(graph, index, name), slow.sends)
                        self.assertEqual(trail(graph, index, name), slow.trail)
                        self.assertEqual(looked(graph, index, name), slow.looked)
                        compared += 1
                        endless += slow.answer == ("endless",)
                        if slow.answer[0] == "thing":
                            things += 1
                            self.assertEqual(at(graph, index, slow.answer[1]),
                                             slow_path_end(spec, index, slow.answer[1]))
        self.assertGreater(compared, 5000)
        self.assertGreater(endless, 200)
        self.assertGreater(things, 200)


class TestAt(unittest.TestCase):
    def graph(self):
        kinds = [Kind("k", {"a": ["k", "l"], "b": ["", "l"]}, {}, []), Kind("l", {"c": ["k", ""]}, {}, [])]
        return Graph(House(kinds), [("k", {"a": 1, "b": None}), ("k", {"a": 2, "b": 2}), ("l", {"c": 0}), ("l", {"c": None})])

    def test_paths(self):
        graph = self.graph()
        for index, path, end in [(0, (), 0), (3, (), 3), (0, ("a",), 1), (0, ("a", "b"), 2), (0, ("a", "a", "c"), 0),
                                 (0, ("a", "b", "c", "a"), 1), (2, ("c",), 0)]:
            self.assertEqual(at(graph, index, path), end)
            self.assertEqual(at(graph, index, list(path)), end)

    def test_a_long_path(self):
        self.assertEqual(at(self.graph(), 0, ["a", "a", "c"] * 20000), 0)
        self.assertEqual(at(self.graph(), 0, ["a", "a", "c"] * 20000 + ["a"]), 1)

    def assert_no_path(self, what, index, path):
        for form in (path, tuple(path)) if type(path) is list else (path,):
            with self.assertRaises(NoPath) as caught:
                at(self.graph(), index, form)
            self.assertEqual(caught.exception.what, what)

    def test_no_list(self):
        for path in NO_LISTS + ["a", "c", {"a": 1}]:
            self.assert_no_path(-1, 0, path)

    def test_the_first_link_that_leads_nowhere_or_does_not_exist(self):
        self.assert_no_path(0, 0, ["b"])
        self.assert_no_path(0, 0, ["c"])
        self.assert_no_path(1, 0, ["a", "c", "b"])
        self.assert_no_path(0, 3, ["c"])
        self.assert_no_path(3, 0, ["a", "a", "c", "b"])
        self.assert_no_path(60000, 0, ["a", "a", "c"] * 20000 + ["b", "b"])

    def test_links_that_are_none(self):
        for link in ANYTHING + ["x", "ab", "A", ("a",), ["a"], b"a"]:
            self.assert_no_path(0, 0, [link])
            self.assert_no_path(2, 0, ["a", "b", link, "b"])

    def test_no_thing_comes_first(self):
        for index in no_indexes(4):
            for path in ((), ("b",), None):
                with self.assertRaises(NoThing) as caught:
                    at(self.graph(), index, path)
                self.assertIs(caught.exception.what, index)


class TestWrongArguments(unittest.TestCase):
    def test_no_thing(self):
        for function in FUNCTIONS:
            for index in no_indexes(3):
                for name in ("lamp", "", "Lamp", None):
                    with self.assertRaises(NoThing) as caught:
                        function(example(), index, name)
                    self.assertIs(caught.exception.what, index)

    def test_no_name(self):
        for function in FUNCTIONS:
            for name in NO_NAMES_OR_EMPTY:
                with self.assertRaises(NoName) as caught:
                    function(example(), 1, name)
                self.assertIs(caught.exception.what, name)

    def test_all_other_strings_are_names(self):
        for name in STRINGS:
            self.assertEqual(ask(example(), 1, name), ("refused",))

    def test_every_argument_by_keyword(self):
        graph = example()
        for function in FUNCTIONS:
            self.assertEqual(function(name="lamp", index=0, graph=graph), function(graph, 0, "lamp"))
        self.assertEqual(at(path=["to"], index=0, graph=graph), 1)

    def test_arguments_are_not_changed(self):
        graph, path = example(), ["to"]
        for function in FUNCTIONS:
            function(graph, 0, "lamp")
        at(graph, 0, path)
        self.assertTrue(graph == example())
        self.assertEqual(path, ["to"])

    def test_lists_are_new_at_each_call(self):
        graph = example()
        for function in (trail, looked):
            function(graph, 0, "lamp").clear()
            self.assertEqual(len(function(graph, 0, "lamp")), 2 if function is trail else 1)

    def test_kinds_of_what_is_returned(self):
        graph = two_things({}, [send([])], {"a": ("link", "on")})
        self.assertIs(type(ask(graph, 0, "a")), tuple)
        self.assertIs(type(ask(graph, 0, "a")[1]), tuple)
        self.assertIs(type(trail(graph, 0, "a")), list)
        self.assertEqual([type(one) for one in trail(graph, 0, "a") + looked(graph, 0, "a")], [tuple] * 4)


if __name__ == "__main__":
    unittest.main()
