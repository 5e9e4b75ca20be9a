"""Points 3, 4 and 46 to 53: graphs whose links can be set."""

import sys
from unittest import mock

from onwardasks import live as live_module
from onwardasks.asks import ask, at, looked, trail
from onwardasks.errors import AskError, BadLink, Endless, NoName, NoThing, Refused
from onwardasks.graphs import Graph
from onwardasks.houses import House
from onwardasks.kinds import Kind
from onwardasks.live import Live, Thing
from tests.cases import Case
from tests.drawn import draw_graphs, draw_house, source
from tests.reference import SlowAsk, TooLong
from tests.samples import ANYTHING, NO_NAMES_OR_EMPTY, STRINGS, door, nested, no_indexes, ring_house, room, send

MANY = 3000
NAMES = ["", "p", "q", "r", "z"]


class Oops(Exception):
    """Something that goes wrong in a block."""


def example():
    return Graph(House([door(), room()]), [("door", {"to": 1}), ("room", {}), ("door", {"to": None})])


def told(call, *args):
    """Return what a call returns or raises, so that it can be compared."""
    try:
        found = call(*args)
    except Refused as error:
        return "Refused", error.what, error.route
    except Endless as error:
        return "Endless", error.what
    return ("Thing", found.index, found.kind) if isinstance(found, Thing) else found


def expected(graph, index, name):
    """Return what a thing of a Live object with this graph should tell, but for the route of a refusal."""
    answer = ask(graph, index, name)
    if answer[0] == "value":
        return answer[1]
    if answer == ("refused",):
        return "Refused", name
    if answer == ("endless",):
        return "Endless", name
    end = at(graph, index, answer[1] if answer[0] == "thing" else ())
    return "Thing", end, graph[end][0]


def slow_route(house, things, index, name):
    """Return the route of a refused ask: the last ask that is sent by the last one."""
    route = [(index, house.column_of(name))]
    while True:
        one = SlowAsk(house, things, *route[-1])
        sent = []
        original = one.ask

        def watched(below, column):
            sent.append((below, column))
            return SlowAsk(house, things, below, column).answer

        one.ask = watched
        one.waiting, one.trail, one.looked = [], [], set()
        original(*route[-1])
        if not sent:
            return tuple(route)
        route.append((sent[-1][0], house.column_of(sent[-1][1])))


def remembered_after(graph, asked):
    """Return what is remembered after asks that are not forgotten."""
    found = set()
    for index, name in asked:
        for one in trail(graph, index, name):
            if ask(graph, *one) != ("endless",):
                found.add(one)
    return sorted(found)


class TestLive(Case):
    def test_len_and_things(self):
        live = Live(example())
        self.assertEqual(len(live), 3)
        self.assertEqual([(live[k].index, live[k].kind) for k in range(3)], [(0, "door"), (1, "room"), (2, "door")])
        self.assertIs(type(live[0]), Thing)
        for wrong in no_indexes(3):
            self.assert_told(NoThing, wrong, live.__getitem__, wrong)
        with self.assertRaises(TypeError):
            list(live)

    def test_listed_methods_stand_in_their_classes(self):
        for name in ("__len__", "__getitem__", "__setitem__", "graph", "remembered", "held", "trial", "tables"):
            self.assertIn(name, vars(Live))
        for name in ("__call__", "peek", "has", "__eq__"):
            self.assertIn(name, vars(Thing))

    def test_things_are_equal(self):
        live, other = Live(example()), Live(example())
        self.assertTrue(live[0] == live[0])
        self.assertEqual([live[0] == live[k] for k in range(3)], [True, False, False])
        self.assertFalse(live[0] == other[0])
        self.assertTrue(live[0] != other[0])
        first = live[0]
        live[0, "to"] = None
        with live.held():
            self.assertTrue(first == live[0])
        self.assertEqual(live[0], first)

    def test_graph(self):
        graph = example()
        live = Live(graph)
        self.assertEqual(live.graph(), graph)
        self.assertIs(type(live.graph()), Graph)
        before = live.graph()
        live[2, "to"] = 1
        self.assertEqual(live.graph(), Graph(graph.house, [("door", {"to": 1}), ("room", {}), ("door", {"to": 1})]))
        self.assertEqual(before, example())
        self.assertEqual(graph, example())
        self.assertEqual(Live(graph).graph(), example())
        self.assertEqual(Live(graph=graph).graph(), graph)

    def test_two_live_objects_of_one_graph(self):
        graph = example()
        one, other = Live(graph), Live(graph)
        one[0, "to"] = None
        one[0]("sign")
        self.assertEqual(other.graph(), graph)
        self.assertEqual(other.remembered(), [])


class TestSetting(Case):
    def setUp(self):
        kinds = [Kind("k", {"a": ["k", "l"], "b": ["l", ""]}, {}, [send([], link="a")]), Kind("l", {}, {"p": ("self",)}, [])]
        self.graph = Graph(House(kinds), [("k", {"a": 0, "b": None}), ("k", {"a": 2, "b": 3}), ("l", {}), ("l", {})])

    def set_link(self, live, pair, other):
        live[pair] = other

    def test_every_end(self):
        for index, link, ends in [(0, "a", [0, 1, 2, 3]), (1, "a", [0, 1, 2, 3]), (0, "b", [2, 3, None]), (1, "b", [None, 2])]:
            for end in ends:
                live = Live(self.graph)
                live[index, link] = end
                things = [self.graph[k] for k in range(4)]
                things[index][1][link] = end
                self.assertEqual(live.graph(), Graph(self.graph.house, things))

    def test_no_thing_comes_first(self):
        live = Live(self.graph)
        for wrong in no_indexes(4):
            for link, other in (("a", 0), ("Wrong", "Wrong"), (None, None)):
                self.assert_told(NoThing, wrong, self.set_link, live, (wrong, link), other)
        self.assertEqual(live.graph(), self.graph)

    def test_bad_link(self):
        live = Live(self.graph)
        live[1]("p")
        before = live.remembered()
        for wrong in [x for x in ANYTHING] + ["c", "A", ["a"], ("a",), nested(90), ""]:
            self.assert_told(BadLink, wrong, self.set_link, live, (0, wrong), 0)
            self.assert_told(BadLink, wrong, self.set_link, live, (0, wrong), "Wrong")
        for wrong in [x for x in no_indexes(4) if x is not None] + [True, False]:
            self.assert_error(BadLink, "a", self.set_link, live, (1, "a"), wrong)
        for index, link, other in [(0, "a", None), (0, "b", 0), (1, "b", 1), (1, "b", 0)]:
            self.assert_error(BadLink, link, self.set_link, live, (index, link), other)
        self.assert_error(BadLink, "a", self.set_link, live, (2, "a"), 0)
        # Nothing changes behind an error.
        self.assertEqual(live.graph(), self.graph)
        self.assertEqual(live.remembered(), before)
        self.assertEqual(before, [(1, "p"), (2, "p")])

    def test_lists_as_pairs(self):
        """A pair is a tuple in the brackets; its parts are looked at one after the other."""
        live = Live(self.graph)
        live[(1, "b")] = 2
        self.assertEqual(live.graph()[1], ("k", {"a": 2, "b": 2}))


class TestAsking(Case):
    def test_each_sort_of_answer(self):
        live = Live(example())
        self.assertEqual(live[0]("lamp"), "on")
        self.assertEqual(live[0]("me"), live[0])
        self.assertEqual(live[0]("sign"), live[0])
        self.assertEqual(live[1]("me"), live[1])
        self.assertEqual(told(live[0], "key"), ("Refused", "key", ((0, "key"),)))
        self.assertEqual(told(live[0], "zzz"), ("Refused", "zzz", ((0, ""), (1, ""))))
        self.assertEqual(told(live[0], ""), ("Refused", "", ((0, ""), (1, ""))))
        self.assertEqual(told(live[2], "lamp"), ("Refused", "lamp", ((2, "lamp"),)))
        for name, has in [("lamp", True), ("me", True), ("sign", True), ("key", False), ("zzz", False), ("", False)]:
            self.assertIs(live[0].has(name), has)
        bare = Live(Graph(House([Kind("k", {"to": ["k"]}, {"b": ("self",)}, [send([])])]), [("k", {"to": 1}), ("k", {"to": 0})]))
        self.assertEqual(told(bare[0], "a"), ("Endless", "a"))
        self.assertEqual(told(bare[0].peek, "b"), ("Thing", 0, "k"))
        self.assertIs(bare[0].has("a"), False)
        self.assertIs(bare[0].has("b"), True)

    def test_refused_and_endless_tell_the_name_itself(self):
        live = Live(Graph(ring_house(send(["a"])), [("k", {"to": 0}), ("k", {"to": None})]))
        for name in ("zzz", "", "b"):
            self.assertEqual(self.error_of(Refused, live[0], name).what, name)
            self.assertEqual(self.error_of(Refused, live[0].peek, name).what, name)
        self.assertEqual(self.error_of(Endless, live[0], "a").what, "a")
        self.assertEqual(self.error_of(Endless, live[0].peek, "a").what, "a")
        ringed = Live(Graph(ring_house(send([])), [("k", {"to": 0})]))
        self.assertEqual(self.error_of(Endless, ringed[0], "zzz").what, "zzz")
        self.assertFalse(hasattr(self.error_of(Endless, ringed[0], ""), "route"))

    def test_no_name(self):
        live = Live(example())
        for wrong in NO_NAMES_OR_EMPTY:
            for call in (live[0], live[0].peek, live[0].has):
                self.assert_told(NoName, wrong, call, wrong)
        self.assertEqual(live.remembered(), [])
        for name in STRINGS:
            self.assertEqual(told(live[0], name), ("Refused", name, ((0, ""), (1, ""))))

    def test_by_keyword(self):
        live = Live(example())
        self.assertEqual([live[0](name="lamp"), live[0].peek(name="lamp"), live[0].has(name="lamp")], ["on", "on", True])
        self.assertEqual(live.trial(settings=[], index=0, name="lamp"), ("value", "on"))
        self.assertEqual(live.trial(name="lamp", settings=[(0, "to", None)], index=0), ("refused",))

    def test_a_thing_answers_by_the_links_as_they_are(self):
        live = Live(example())
        thing = live[2]
        self.assertIs(thing.has("lamp"), False)
        live[2, "to"] = 1
        self.assertEqual([thing("lamp"), thing.peek("lamp"), thing.has("lamp")], ["on", "on", True])
        live[2, "to"] = None
        self.assertEqual(told(thing, "lamp"), ("Refused", "lamp", ((2, "lamp"),)))

    def test_routes_behind_refused_trials(self):
        rules = [send(["a"], "b", "try"), send(["a"], "c", "try"), ("bar", ["b"]), send(["c"], "b", "try"), send(["d"], "b", "try"),
                 send(["d"], "c", "try"), send(["d"], "b", "try"), ("bar", ["d"]), send(["e"], "a", "try"), ("give", ["e"], "to", "last")]
        live = Live(Graph(ring_house(*rules), [("k", {"to": 1}), ("k", {"to": 2}), ("k", {"to": None})]))
        for index, name, route in [
                (0, "a", ((0, "a"), (1, "c"), (2, "b"))), (0, "b", ((0, "b"),)), (0, "c", ((0, "c"), (1, "b"))),
                (0, "d", ((0, "d"), (1, "b"))), (1, "a", ((1, "a"), (2, "c"))), (2, "a", ((2, "a"),)), (2, "e", ((2, "e"),)),
                (0, "zzz", ((0, ""),))]:
            for _ in range(2):
                self.assertEqual(told(live[index], name), ("Refused", name, route))
                self.assertEqual(told(live[index].peek, name), ("Refused", name, route))
            self.assertIs(type(self.error_of(Refused, live[index], name).route), tuple)

    def test_drawn(self):
        """Whatever was asked and set before, things tell what asks tell, and remember what they should."""
        chance = source(91)
        seen = set()
        for _ in range(60):
            house = draw_house(chance, kinds="klm", names="pqr", most_rules=5)
            for graph in draw_graphs(chance, house, 3, most=7):
                live = Live(graph)
                memory = set()
                for _ in range(30):
                    graph = live.graph()
                    index, name = chance.randrange(len(live)), chance.choice(NAMES)
                    if chance.random() < 0.7:
                        answer = told(live[index], name)
                        self.assertEqual(told(live[index].peek, name), answer)
                        self.check_answer(answer, graph, index, name)
                        memory |= set(remembered_after(graph, [(index, name)]))
                        seen.add(answer[0] if isinstance(answer, tuple) else "value")
                    elif house[graph[index][0]].links():
                        link = chance.choice(sorted(house[graph[index][0]].links()))
                        end = chance.choice([None, *range(len(live))])
                        try:
                            live[index, link] = end
                            memory = {one for one in memory if (index, link) not in looked(graph, *one)}
                        except BadLink:
                            self.assertEqual(live.graph(), graph)
                    self.assertEqual(live.remembered(), sorted(memory))
        self.assertEqual(seen, {"value", "Thing", "Refused", "Endless"})

    def check_answer(self, answer, graph, index, name):
        wanted = expected(graph, index, name)
        if wanted[0] == "Refused":
            self.assertEqual(answer[:2], wanted)
            things = [graph[k] for k in range(len(graph))]
            try:
                self.assertEqual(answer[2], slow_route(graph.house, things, index, name))
            except TooLong:
                pass
        else:
            self.assertEqual(answer, wanted)


class TestRemembering(Case):
    def chain(self, many=4):
        """Return a Live chain in which each thing tries what is told at the end, and a thing beside it."""
        house = ring_house(send(["a"], "", "try"), ("tell", ["a"], "v"), send(["b"], "", "last"))
        return Live(Graph(house, [("k", {"to": k + 1}) for k in range(many - 1)] + [("k", {"to": None})] * 2))

    def test_what_is_remembered(self):
        live = self.chain()
        self.assertEqual(live.remembered(), [])
        self.assertIs(type(live.remembered()), list)
        self.assertEqual(live[2]("a"), "v")
        self.assertEqual(live.remembered(), [(2, "a"), (3, "a")])
        self.assertEqual(live[0]("a"), "v")
        self.assertEqual(live.remembered(), [(k, "a") for k in range(4)])
        told(live[1], "b")
        told(live[4], "zzz")
        self.assertEqual(live.remembered(), [(0, "a"), (1, "a"), (1, "b"), (2, "a"), (2, "b"), (3, "a"), (3, "b"), (4, "")])

    def test_peek_has_trial_and_tables_do_not_remember(self):
        live = self.chain()
        told(live[0].peek, "b")
        live[0].peek("a")
        live[0].has("a")
        live.trial([(0, "to", None)], 0, "a")
        list(live.tables())
        self.assertEqual(live.remembered(), [])
        live[1]("a")
        before = live.remembered()
        live[0].peek("a")
        live[0].has("b")
        live.trial([(2, "to", None)], 0, "b")
        list(live.tables())
        self.assertEqual(live.remembered(), before)
        self.assert_error(NoName, "A", live[1], "A")
        self.assertEqual(live.remembered(), before)

    def test_what_setting_a_link_removes(self):
        live = self.chain()
        live[0]("a")
        told(live[1], "zzz")
        live[2, "to"] = 4
        self.assertEqual(live.remembered(), [(1, ""), (3, "a")])
        live[0]("a")
        self.assertEqual(live.remembered(), [(0, "a"), (1, ""), (1, "a"), (2, "a"), (3, "a"), (4, "a")])
        live[3, "to"] = 4
        self.assertEqual(live.remembered(), [(0, "a"), (1, ""), (1, "a"), (2, "a"), (4, "a")])
        live[0, "to"] = 1
        self.assertEqual(live.remembered(), [(1, ""), (1, "a"), (2, "a"), (4, "a")])

    def test_it_does_not_matter_where_the_link_led(self):
        for end in (1, None, 0, 2):
            live = self.chain()
            live[0]("a")
            live[1, "to"] = end
            self.assertEqual(live.remembered(), [(2, "a"), (3, "a")])

    def test_only_links_that_were_looked_at(self):
        kinds = [Kind("k", {"a": ["l", ""], "b": ["l", ""]}, {"s": ("link", "b")},
                      [send(["p"], "", "try", link="a"), ("give", ["p"], "b", "last"), ("give", ["q"], "b", "try")]),
                 Kind("l", {}, {"p": ("value", "v")}, [])]
        def fresh():
            live = Live(Graph(House(kinds), [("k", {"a": 1, "b": 1}), ("l", {})]))
            for name in ("p", "q", "s", "z"):
                told(live[0], name)
            return live
        self.assertEqual(fresh().remembered(), [(0, ""), (0, "p"), (0, "q"), (0, "s"), (1, "p")])
        live = fresh()
        live[0, "b"] = None
        self.assertEqual(live.remembered(), [(0, ""), (0, "p"), (1, "p")])
        live = fresh()
        live[0, "a"] = None
        self.assertEqual(live.remembered(), [(0, ""), (0, "q"), (0, "s"), (1, "p")])
        self.assertEqual(live[0]("p"), live[1])
        live[0, "b"] = None
        self.assertEqual(live.remembered(), [(0, ""), (1, "p")])

    def test_endless_asks_are_not_remembered_but_those_that_ended_before(self):
        house = ring_house(send(["a"], "b", "try"), send(["a"], "c", "last"), send(["c"], "c", "try"), ("bar", ["b"]))
        live = Live(Graph(house, [("k", {"to": 1}), ("k", {"to": 2}), ("k", {"to": 1})]))
        self.assertEqual(told(live[0], "a"), ("Endless", "a"))
        self.assertEqual(live.remembered(), [(1, "b")])
        self.assertEqual(told(live[0], "a"), ("Endless", "a"))
        live[2, "to"] = None
        self.assertEqual(live.remembered(), [(1, "b")])
        self.assertEqual(told(live[0], "a"), ("Refused", "a", ((0, "a"), (1, "c"), (2, "c"))))
        self.assertEqual(live.remembered(), [(0, "a"), (1, "b"), (1, "c"), (2, "c")])

    def test_asks_that_look_at_a_link_in_two_ways(self):
        """What is removed because of two asks below is removed once, in whatever order they were remembered."""
        kinds = [Kind("k", {"a": ["k", ""], "b": ["k", ""]}, {},
                      [send(["p"], "q", "try", link="b"), send(["p"], "", "try", link="a"), ("give", ["q"], "a", "last")])]
        live = Live(Graph(House(kinds), [("k", {"a": None, "b": 2}), ("k", {"a": None, "b": 2}), ("k", {"a": None, "b": None})]))
        told(live[0], "p")
        live[2, "a"] = None
        self.assertEqual(live.remembered(), [])
        told(live[0], "p")
        live[0, "a"] = 1
        self.assertEqual(live.remembered(), [(2, "q")])
        told(live[1], "p")
        told(live[0], "p")
        self.assertEqual(live.remembered(), [(0, "p"), (1, "p"), (2, "q")])
        live[2, "a"] = 0
        self.assertEqual(live.remembered(), [])

    def test_remembered_asks_are_used(self):
        """What is remembered is not worked out again."""
        live = self.chain(200)
        live[0]("a")
        with mock.patch.object(live_module.Work, "go_on") as worked:
            for k in range(200):
                self.assertEqual(live[k]("a"), "v")
        worked.assert_not_called()

    def test_lists_are_new(self):
        live = self.chain()
        live[3]("a")
        live.remembered().clear()
        self.assertEqual(live.remembered(), [(3, "a")])


class TestHeld(Case):
    def setUp(self):
        house = ring_house(send(["a"], "", "try"), ("tell", ["a"], "v"), send(["b"]), ("self", ["c"]))
        self.graph = Graph(house, [("k", {"to": 1}), ("k", {"to": 2}), ("k", {"to": None})])
        self.live = Live(self.graph)
        self.live[1]("a")
        self.memory = [(1, "a"), (2, "a")]

    def assert_as_before(self):
        self.assertEqual(self.live.graph(), self.graph)
        self.assertEqual(self.live.remembered(), self.memory)

    def change(self):
        self.live[1, "to"] = 0
        self.live[0, "to"] = 2
        told(self.live[1], "b")
        self.live[0]("c")
        self.assertEqual(self.live.remembered(), [(0, "b"), (0, "c"), (1, "b"), (2, "a"), (2, "b")])

    def test_left_by_its_end(self):
        with self.live.held():
            self.assert_as_before()
            self.change()
        self.assert_as_before()
        with self.live.held():
            pass
        self.assert_as_before()
        with self.live.held():
            self.live[0]("a")
            self.assertEqual(self.live.remembered(), [(0, "a")] + self.memory)
        self.assert_as_before()

    def test_left_by_an_error(self):
        for error in (Oops, Refused, KeyboardInterrupt):
            with self.assertRaises(error):
                with self.live.held():
                    self.change()
                    raise error("x", ()) if error is Refused else error
            self.assert_as_before()

    def test_left_by_a_return_a_break_or_a_generator(self):
        def returned():
            with self.live.held():
                self.change()
                return "out"
        self.assertEqual(returned(), "out")
        self.assert_as_before()
        for _ in range(3):
            with self.live.held():
                self.change()
                break
        self.assert_as_before()
        for _ in range(3):
            with self.live.held():
                self.change()
                continue
        self.assert_as_before()

    def test_nested(self):
        with self.live.held():
            self.live[0, "to"] = None
            self.live[0]("a")
            inner = self.live.graph(), self.live.remembered()
            for _ in range(2):
                with self.assertRaises(Oops):
                    with self.live.held():
                        self.change()
                        with self.live.held():
                            self.live[2, "to"] = 0
                            self.live[2]("c")
                        self.assertEqual(self.live.remembered(), [(0, "b"), (0, "c"), (1, "b"), (2, "a"), (2, "b")])
                        raise Oops
                self.assertEqual((self.live.graph(), self.live.remembered()), inner)
            self.live[1, "to"] = None
            self.assertEqual(self.live.remembered(), [(0, "a"), (2, "a")])
        self.assert_as_before()

    def test_the_same_object_several_times(self):
        held = self.live.held()
        for _ in range(2):
            with held:
                self.change()
                with held:
                    self.live[2, "to"] = 2
                self.assertEqual(self.live.graph()[2], ("k", {"to": None}))
            self.assert_as_before()

    def test_many_levels(self):
        """Each block is left with what it was entered with, also where nothing or much was changed in it."""
        def enter(level):
            before = self.live.graph(), self.live.remembered()
            with self.live.held():
                if level % 3:
                    self.live[level % 3, "to"] = [0, 1, 2, None][level % 4]
                told(self.live[level % 3], "abc"[level % 2])
                if level < 30:
                    enter(level + 1)
            self.assertEqual((self.live.graph(), self.live.remembered()), before)
        enter(0)
        self.assert_as_before()

    def test_settings_outside_of_the_block_are_kept(self):
        with self.live.held():
            self.change()
        self.live[0, "to"] = 0
        self.assertEqual(told(self.live[0], "a"), ("Endless", "a"))
        self.assertEqual(self.live.graph()[0], ("k", {"to": 0}))
        with self.live.held():
            self.live[0, "to"] = 1
            self.assertEqual(self.live[0]("a"), "v")
        self.assertEqual(self.live.graph()[0], ("k", {"to": 0}))
        self.assertEqual(self.live.remembered(), self.memory)

    def test_things_in_blocks(self):
        thing = self.live[0]
        with self.live.held():
            self.live[0, "to"] = 0
            self.assertEqual(told(thing, "a"), ("Endless", "a"))
            self.assertEqual(told(thing.peek, "a"), ("Endless", "a"))
        self.assertEqual([thing("a"), thing.peek("a")], ["v", "v"])


class TestTrial(TestHeld):
    """As for blocks, with trials; the tests of blocks are run once more between trials."""

    def trial_all(self):
        for name, answer in [("a", ("value", "v")), ("b", ("refused",)), ("c", ("self",)), ("zzz", ("refused",))]:
            self.assertEqual(self.live.trial([], 0, name), answer)

    def change(self):
        self.live.trial([(0, "to", 0)], 0, "a")
        super().change()
        self.live.trial([(2, "to", 0)], 0, "b")

    def test_answers(self):
        self.trial_all()
        for settings, index, name, answer in [
                ([(0, "to", 0)], 0, "a", ("endless",)), ([(0, "to", None)], 0, "a", ("value", "v")), ([(1, "to", 1)], 0, "b", ("endless",)),
                ([(1, "to", 0), (0, "to", None)], 1, "b", ("refused",)), ([(0, "to", 0), (0, "to", 2)], 0, "a", ("value", "v")),
                ([(0, "to", 1)] * 50, 0, "c", ("self",))]:
            self.assertEqual(self.live.trial(settings, index, name), answer)
            self.assertEqual(self.live.trial(tuple(list(one) for one in settings), index, name), answer)
            self.assert_as_before()

    def test_paths(self):
        house = ring_house(send(["a"], "", "try"), ("self", ["a"]))
        live = Live(Graph(house, [("k", {"to": 1}), ("k", {"to": 2}), ("k", {"to": None})]))
        self.assertEqual(live.trial([], 0, "a"), ("thing", ("to", "to")))
        self.assertEqual(live.trial([(1, "to", None)], 0, "a"), ("thing", ("to",)))

    def test_errors_in_their_order(self):
        for settings, error, what in [
                ([(3, "to", 0), ("x", "Wrong", 0)], NoThing, 3), ([(0, "to", 2), (True, "to", 0)], NoThing, True),
                ([(0, "to", 2), (0, "on", 0)], BadLink, "on"), ([(0, "to", 3), (9, "to", 0)], BadLink, "to"),
                ([(0, "to", True)], BadLink, "to"), ([(-1, "Wrong", "Wrong")], NoThing, -1)]:
            for index, name in ((0, "a"), (7, "A"), (0, "A")):
                self.assert_error(error, what, self.live.trial, settings, index, name)
                self.assert_as_before()
        for wrong in no_indexes(3):
            self.assert_told(NoThing, wrong, self.live.trial, [(0, "to", None)], wrong, "Wrong")
        for wrong in NO_NAMES_OR_EMPTY:
            self.assert_told(NoName, wrong, self.live.trial, [(0, "to", None)], 0, wrong)
        self.assert_as_before()

    def test_arguments_are_not_changed(self):
        settings = [[0, "to", None], [1, "to", 0]]
        self.live.trial(settings, 1, "a")
        self.assertEqual(settings, [[0, "to", None], [1, "to", 0]])

    def test_drawn(self):
        chance = source(92)
        for _ in range(60):
            house = draw_house(chance, kinds="klm", names="pqr", most_rules=5)
            for graph in draw_graphs(chance, house, 3, most=7):
                live = Live(graph)
                for _ in range(8):
                    told(live[chance.randrange(len(live))], chance.choice(NAMES))
                    before = live.graph(), live.remembered()
                    settings = []
                    for _ in range(chance.randint(0, 3)):
                        index = chance.randrange(len(live))
                        links = sorted(house[graph[index][0]].links()) + ["x"] * (chance.random() < 0.1)
                        if links:
                            settings.append((index, chance.choice(links), chance.choice([None, *range(len(live))])))
                    index, name = chance.randrange(len(live)), chance.choice(NAMES)
                    self.assertEqual(self.outcome(live.trial, settings, index, name), self.by_setting(live, settings, index, name))
                    self.assertEqual((live.graph(), live.remembered()), before)

    def outcome(self, call, *args):
        try:
            return call(*args)
        except AskError as error:
            return type(error), error.what

    def by_setting(self, live, settings, index, name):
        other = Live(live.graph())
        for place, link, end in settings:
            try:
                other[place, link] = end
            except AskError as error:
                return type(error), error.what
        return self.outcome(ask, other.graph(), index, name)


class TestTables(Case):
    def test_by_hand(self):
        live = Live(example())
        R, S = ("refused",), ("self",)
        self.assertEqual(list(live.tables()), [
            (0, (R, R, ("value", "on"), S, S)), (1, (R, ("value", "k"), ("value", "on"), S, R)), (2, (R, R, R, R, S))])

    def test_a_generator(self):
        tables = Live(example()).tables()
        self.assertIs(iter(tables), tables)
        self.assertEqual(next(tables)[0], 0)
        self.assertEqual([index for index, answers in tables], [1, 2])
        for one in Live(example()).tables():
            self.assertIs(type(one), tuple)
            self.assertIs(type(one[1]), tuple)

    def test_asking_while_iterating(self):
        live = Live(example())
        for index, answers in live.tables():
            told(live[index], "lamp")
        self.assertEqual(live.remembered(), [(0, "lamp"), (1, "lamp"), (2, "lamp")])

    def test_drawn(self):
        chance = source(93)
        for _ in range(60):
            house = draw_house(chance, kinds="klm", names="pqr", most_rules=5)
            for graph in draw_graphs(chance, house, 4, most=8):
                live = Live(graph)
                told(live[0], "p")
                with live.held():
                    for k in range(len(live)):
                        for link in house[graph[k][0]].links():
                            try:
                                live[k, link] = chance.randrange(len(live))
                            except BadLink:
                                pass
                    now, memory = live.graph(), live.remembered()
                    self.assertEqual(list(live.tables()), [
                        (k, tuple(ask(now, k, column) for column in house.columns())) for k in range(len(live))])
                    self.assertEqual(live.remembered(), memory)


class TestGreatGraphs(Case):
    def test_a_chain(self):
        house = ring_house(send(["a"], "", "try"), ("tell", ["a"], "v"), send(["b"], "", "try"), ("self", ["b"]), send(["c"]))
        live = Live(Graph(house, [("k", {"to": k + 1}) for k in range(MANY - 1)] + [("k", {"to": None})]))
        self.assertGreater(MANY, 2 * sys.getrecursionlimit())
        self.assertEqual(live[0]("a"), "v")
        self.assertEqual(live[0]("b"), live[MANY - 1])
        self.assertEqual(live[0].peek("b"), live[MANY - 1])
        error = self.error_of(Refused, live[0], "c")
        self.assertEqual(error.route, tuple((k, "c") for k in range(MANY)))
        self.assertEqual(len(live.remembered()), 3 * MANY)
        for k in range(MANY):
            self.assertEqual(live[k]("a"), "v")
        live[1500, "to"] = None
        self.assertEqual(live.remembered(), [(k, name) for k in range(1501, MANY) for name in "abc"])
        self.assertEqual(live[0]("b"), live[1500])
        self.assertEqual(live.trial([(1500, "to", 1501)], 1000, "b"), ("thing", ("to",) * 1999))
        with live.held():
            live[MANY - 1, "to"] = 0
            self.assertEqual(live.remembered(), [(k, "b") for k in range(1501)])
            self.assertEqual(live[MANY - 1]("b"), live[1500])
        self.assertEqual(len(live.remembered()), 1501 + 3 * 1499)

    def test_a_ring(self):
        live = Live(Graph(ring_house(send(["a"])), [("k", {"to": (k + 1) % MANY}) for k in range(MANY)]))
        self.assertEqual(told(live[5], "a"), ("Endless", "a"))
        self.assertIs(live[5].has("a"), False)
        self.assertEqual(live.remembered(), [])
        self.assertEqual(live.trial([], 7, "a"), ("endless",))
        self.assertEqual(list(live.tables()), [(k, (("refused",), ("endless",))) for k in range(MANY)])
        live[MANY - 1, "to"] = None
        self.assertEqual(len(self.error_of(Refused, live[0], "a").route), MANY)
        self.assertEqual(len(live.remembered()), MANY)
        live[0, "to"] = 0
        self.assertEqual(len(live.remembered()), MANY - 1)

    def test_tables_work_out_each_ask_once(self):
        for house, last in ((ring_house(send(["a"])), 0), (ring_house(send(["a"], "", "try"), ("self", ["a"])), None)):
            live = Live(Graph(house, [("k", {"to": k + 1}) for k in range(99)] + [("k", {"to": last})]))
            with mock.patch.object(live_module.Work, "go_on", autospec=True, side_effect=live_module.Work.go_on) as worked:
                self.assertEqual(len(list(live.tables())), 100)
            self.assertLess(worked.call_count, 500)

    def test_tables_of_a_chain(self):
        house = ring_house(send(["a"], "", "try"), ("tell", ["a"], "v"), send([]))
        live = Live(Graph(house, [("k", {"to": k + 1}) for k in range(MANY - 1)] + [("k", {"to": None})]))
        self.assertEqual(list(live.tables()), [(k, (("refused",), ("value", "v"))) for k in range(MANY)])

    def test_setting_every_link(self):
        house = ring_house(send(["a"], "", "try"), ("tell", ["a"], "v"))
        live = Live(Graph(house, [("k", {"to": None})] * MANY))
        for k in range(MANY - 1):
            live[k, "to"] = k + 1
            live[k]("a")
        # Each link that was set removed all asks in front of it.
        self.assertEqual(live.remembered(), [(MANY - 2, "a"), (MANY - 1, "a")])
        self.assertEqual(live[0]("a"), "v")
        for k in range(MANY - 2, -1, -1):
            live[k, "to"] = None
            live[k]("a")
        self.assertEqual(len(live.remembered()), MANY)


if __name__ == "__main__":
    import unittest
    unittest.main()
