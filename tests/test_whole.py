"""Points 2, 3, 4 and 7 over the whole program, and the interface."""

import ast
import importlib
import inspect
import itertools
import pathlib

from onwardasks import errors
from onwardasks.asks import ask, at, depth, looked, sends, trail
from onwardasks.behind import unlike
from onwardasks.chains import joined
from onwardasks.errors import AskError
from onwardasks.finite import answers, deep_graph, deepest, ends, graph_of
from onwardasks.graphs import Graph
from onwardasks.houses import House
from onwardasks.kinds import Kind
from onwardasks.least import kept, least_rules, paper, paper_fault, spare
from onwardasks.likeness import parted, swapped
from onwardasks.lists import claims, fall, fall_fault, founded, founded_fault, real, spread, spread_fault
from onwardasks.live import Live, Thing
from onwardasks.panels import Panel, made, row_of, seed
from onwardasks.texts import graph_text, house_text, read_graph, read_house
from onwardasks.walks import held, leak, verdict, walked
from tests.cases import Case, houses_in_bounds, pairs_in_bounds
from tests.drawn import draw_graphs, source
from tests.samples import ANYTHING

PACKAGE = pathlib.Path(__file__).resolve().parent.parent / "onwardasks"

INTERFACE = {
    "kinds": ["Kind(name, links, own, rules, *, hidden=False)"],
    "houses": ["House(kinds)"],
    "graphs": ["Graph(house, things)"],
    "asks": [f"{name}(graph, index, name)" for name in ("ask", "depth", "sends", "trail", "looked")] + ["at(graph, index, path)"],
    "panels": ["Panel(one, other=None)", "made(panel, kind, below)", "seed(panel, kind)", "row_of(panel, graph, index)"],
    "lists": [f"{name}(panel)" for name in ("spread", "claims", "fall", "real", "founded")]
    + ["spread_fault(panel, rows)", "fall_fault(panel, rows, order)", "founded_fault(panel, rows, pairs)"],
    "finite": ["graph_of(panel, row)", "answers(house, kind, name)", "ends(house, kind, name)", "deepest(house, kind, name)",
               "deep_graph(house, kind, name, least)"],
    "behind": ["unlike(house, kind, link, names=None, *, bare=False)"],
    "walks": ["walked(graph, index, names)", "leak(house, kind)", "held(house, kind)", "verdict(house, kind, link)"],
    "likeness": ["parted(one, other)", "swapped(house, kind, other)"],
    "least": ["kept(house, lot)", "spare(house)", "least_rules(house)", "paper(house, lot)", "paper_fault(house, lot, paper)"],
    "chains": ["joined(house, kind, link, other, name, names)"],
    "live": ["Live(graph)", "Thing()"],
    "texts": ["house_text(house)", "graph_text(graph)", "read_house(text)", "read_graph(house, text)"],
}
METHODS = {
    Kind: ["name", "hidden", "links()", "own()", "rules()", "__getitem__", "__contains__", "__eq__"],
    House: ["names()", "columns()", "kinds()", "column_of(name)", "__getitem__", "with_kind(kind)", "__eq__"],
    Graph: ["house", "__len__", "__getitem__", "over(house)", "__eq__"],
    Panel: ["columns()", "kinds()", "houses()", "links(kind)"],
    Live: ["__len__", "__getitem__", "__setitem__", "graph()", "remembered()", "held()", "trial(settings, index, name)", "tables()"],
    Thing: ["__call__(name)", "peek(name)", "has(name)", "__eq__"],
}


def parameters(function):
    """Return the parameters of a function as they are written, but for self."""
    signature = inspect.signature(function)
    return str(signature.replace(parameters=[one for name, one in signature.parameters.items() if name != "self"]))


class TestInterface(Case):
    def test_functions_and_classes_stand_in_their_files(self):
        for module, listed in INTERFACE.items():
            tree = ast.parse((PACKAGE / f"{module}.py").read_text("ascii"))
            defined = [node.name for node in tree.body if isinstance(node, (ast.FunctionDef, ast.ClassDef))]
            found = importlib.import_module(f"onwardasks.{module}")
            for one in listed:
                name, written = one.split("(", 1)
                self.assertIn(name, defined)
                if name != "Thing":
                    self.assertEqual(parameters(getattr(found, name)), "(" + written, name)

    def test_methods_stand_in_their_classes(self):
        for one, listed in METHODS.items():
            for method in listed:
                name = method.split("(")[0]
                self.assertIn(name, vars(one), (one, name))
                if "(" in method:
                    self.assertEqual(parameters(vars(one)[name]), method[len(name):])

    def test_errors_are_raised_only_as_listed(self):
        for name, error in vars(errors).items():
            if inspect.isclass(error) and error is not AskError:
                self.assertEqual(error.__bases__, (AskError,))
                self.assertIsInstance(error, type)


def turned_dict(table):
    return dict(reversed(list(table.items())))


def turned_rule(rule):
    """Return a rule with its names in another order, as a list."""
    return [rule[0], list(rule[1])[::-1], *rule[2:]]


def turned_kind(kind):
    """Return the kind, made of dicts and lists in another order."""
    links = turned_dict({link: list(choices)[::-1] for link, choices in kind.links().items()})
    return Kind(kind.name, links, turned_dict({name: list(one) for name, one in kind.own().items()}),
                [turned_rule(rule) for rule in kind.rules()], hidden=kind.hidden)


def turned(house):
    """Return the house, made of kinds in another order, and each of dicts and lists in another order."""
    return House(tuple(turned_kind(house[name]) for name in reversed(house.kinds())))


class TestOrders(Case):
    """The order of kinds, of choices, of the keys of dicts and of the names in a rule has no meaning."""

    def told(self, function, *args):
        """Return what a call returns or raises."""
        try:
            return function(*args)
        except AskError as error:
            return type(error), vars(error)

    def assert_same(self, function, args, other_args):
        self.assertEqual(self.told(function, *args), self.told(function, *other_args))

    def test_kinds_and_houses(self):
        for house in houses_in_bounds(101, 40, kinds="klm", names="pqr", most_rules=5):
            other = turned(house)
            self.assertEqual(other, house)
            self.assertEqual([other.kinds(), other.columns(), house_text(other)], [house.kinds(), house.columns(), house_text(house)])
            for kind in house.kinds():
                self.assertEqual(list(other[kind].links().items()), list(house[kind].links().items()))
                self.assertEqual(list(other[kind].own().items()), list(house[kind].own().items()))
                self.assertEqual(other[kind].rules(), house[kind].rules())

    def test_graphs(self):
        chance = source(102)
        for house in houses_in_bounds(103, 30, kinds="klm", names="pqr", most_rules=5):
            other_house = turned(house)
            for graph in draw_graphs(chance, house, 4):
                other = Graph(other_house, [[graph[k][0], turned_dict(graph[k][1])] for k in range(len(graph))])
                self.assertEqual(other, graph)
                self.assertEqual(graph_text(other), graph_text(graph))
                self.assertEqual(read_graph(other_house, graph_text(graph)), graph)
                live, other_live = Live(graph), Live(other)
                for k, name in itertools.product(range(len(graph)), ["", "p", "q", "r", "z"]):
                    for function in (ask, depth, sends, trail, looked):
                        self.assert_same(function, (graph, k, name), (other, k, name))
                    self.assert_same(walked, (graph, k, [name] * 3), (other, k, (name,) * 3))
                    self.assert_same(live[k].has, (name,), (name,))
                    self.assertEqual(live[k].has(name), other_live[k].has(name))
                self.assertEqual(list(live.tables()), list(other_live.tables()))

    def test_lists(self):
        for houses in [[house] for house in houses_in_bounds(104, 30)] + pairs_in_bounds(105, 20):
            panel, other = Panel(*houses), Panel(*[turned(house) for house in houses])
            self.assertEqual([panel.columns(), panel.kinds(), panel.houses()], [other.columns(), other.kinds(), other.houses()])
            for function in (spread, claims, fall, real, founded):
                self.assertEqual(function(panel), function(other))
            rows = spread(panel)
            self.assertIsNone(spread_fault(other, rows[::-1] * 2))
            self.assertIsNone(fall_fault(other, rows[::-1], fall(panel)))
            self.assertIsNone(founded_fault(other, claims(panel)[::-1], founded(panel)[::-1] * 2))
            for row in real(panel):
                self.assertEqual(row_of(other, graph_of(other, row), 0), row)
            for kind in panel.kinds():
                self.assertEqual(seed(panel, kind), seed(other, kind))
                links = panel.links(kind)
                below = {link: next((row for row in rows if row[0] in links[link]), None) for link in links}
                self.assert_same(made, (panel, kind, below), (other, kind, turned_dict(below)))

    def test_single_houses(self):
        for house in houses_in_bounds(106, 40, kinds="kl", most_rules=3):
            other = turned(house)
            for kind in house.kinds():
                for name in house.columns() + ["z"]:
                    for function in (answers, ends, deepest):
                        self.assert_same(function, (house, kind, name), (other, kind, name))
                    self.assert_same(deep_graph, (house, kind, name, 2), (other, kind, name, 2))
                for function in (leak, held):
                    self.assert_same(function, (house, kind), (other, kind))
                for link in house[kind].links():
                    self.assert_same(unlike, (house, kind, link), (other, kind, link))
                    self.assert_same(unlike, (house, kind, link, ["z", "p"]), (other, kind, link, ("p", "z")))
                    self.assert_same(verdict, (house, kind, link), (other, kind, link))
                    for one in house.kinds():
                        self.assert_same(swapped, (house, kind, one), (other, kind, one))
                        names = {(0, left): "x" for left in house[kind].links() if left != link}
                        names |= {(1, left): "y" + left for left in house[one].links()}
                        self.assert_same(joined, (house, kind, link, one, "n", names), (other, kind, link, one, "n", turned_dict(names)))
            rules = [(kind, index) for kind in house.kinds() for index in range(len(house[kind].rules()))]
            for function in (least_rules, spare):
                self.assert_same(function, (house,), (other,))
            for lot in (rules, rules[:2], rules[1:]):
                self.assert_same(kept, (house, lot), (other, lot[::-1]))
                self.assert_same(paper, (house, lot), (other, lot[::-1]))
                self.assert_same(paper_fault, (house, lot, []), (other, lot[::-1], ()))

    def test_pairs_of_houses(self):
        for one, other in pairs_in_bounds(107, 40):
            self.assert_same(parted, (one, other), (turned(one), turned(other)))
            self.assert_same(parted, (one, turned(one)), (turned(one), one))


class TestLaterChanges(Case):
    """What was passed or returned may be changed later: nothing else changes."""

    def test_arguments(self):
        links, own, names = {"to": ["k", ""]}, {"b": ["self"]}, ["a"]
        rules = [["send", names, "to", "", "try", False], ["tell", ["a"], "v"]]
        kind = Kind("k", links, own, rules)
        kinds = [kind]
        house = House(kinds)
        things = [["k", {"to": 1}], ["k", {"to": None}]]
        graph = Graph(house, things)
        live, panel = Live(graph), Panel(house)
        expected = house_text(house), graph_text(graph), real(panel), answers(house, "k", "a"), list(live.tables())
        links["to"].append("x")
        links.clear()
        own["b"][0] = "value"
        names.append("c")
        rules.clear()
        kinds.clear()
        things[0][1]["to"] = None
        things.clear()
        now = house_text(house), graph_text(graph), real(panel), answers(house, "k", "a"), list(live.tables())
        self.assertEqual(now, expected)

    def test_results(self):
        house = read_house("kind k\nlink to - k\nown b self\nsend to = try bare a\ntell v a")
        graph = read_graph(house, "k to 1\nk to -")
        live, panel = Live(graph), Panel(house)
        lot = [("k", 0), ("k", 1)]
        for call in (house.names, house.columns, house.kinds, house["k"].links, house["k"].own, house["k"].rules, panel.columns,
                     panel.kinds, panel.houses, lambda: panel.links("k"), lambda: graph[0][1], lambda: trail(graph, 0, "a"),
                     lambda: looked(graph, 0, "a"), lambda: spread(panel), lambda: claims(panel), lambda: fall(panel),
                     lambda: real(panel), lambda: founded(panel), lambda: answers(house, "k", "a"),
                     lambda: walked(graph, 0, ["a"]), lambda: held(house, "k"), lambda: spare(house), lambda: least_rules(house),
                     lambda: paper(house, lot), live.remembered):
            before = call()
            call().clear()
            self.assertEqual(call(), before)

    def test_the_very_argument_is_told(self):
        """Errors about an argument tell the argument itself, whatever it is."""
        house = House([Kind("k", {}, {}, [])])
        panel, graph = Panel(house), Graph(house, [("k", {})])
        calls = [(errors.NoKind, lambda x: house[x]), (errors.NoKind, lambda x: house.with_kind(x)),
                 (errors.NoKind, lambda x: panel.links(x)), (errors.NoKind, lambda x: made(panel, x, {})),
                 (errors.NoKind, lambda x: seed(panel, x)), (errors.NoKind, lambda x: answers(house, x, "a")),
                 (errors.NoKind, lambda x: leak(house, x)), (errors.NoKind, lambda x: swapped(house, "k", x)),
                 (errors.NoLink, lambda x: verdict(house, "k", x)), (errors.NoLink, lambda x: unlike(house, "k", x)),
                 (errors.NoLink, lambda x: joined(house, "k", x, "k", "n", {}))]
        for error, call in calls:
            for wrong in ANYTHING + ["zzz"]:
                if not (isinstance(wrong, Kind) and error is errors.NoKind):
                    self.assert_told(error, wrong, call, wrong)
        for wrong in ANYTHING:
            if type(wrong) is not int or wrong != 0:
                self.assert_told(errors.NoThing, wrong, at, graph, wrong, ())


if __name__ == "__main__":
    import unittest
    unittest.main()
