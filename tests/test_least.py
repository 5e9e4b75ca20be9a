"""Points 3, 4 and 38 to 41: which rules are needed, and certificates for it."""

from unittest import mock

from onwardasks import least
from onwardasks.asks import ask
from onwardasks.errors import NoRule, NotLeast, TooMany
from onwardasks.graphs import Graph
from onwardasks.houses import House
from onwardasks.kinds import Kind
from onwardasks.least import kept, least_rules, paper, paper_fault, spare
from onwardasks.likeness import parted
from onwardasks.texts import read_house
from tests.cases import Case
from tests.crowded import wide_house
from tests.drawn import draw_house, source
from tests.reference import all_lots, slow_alike, slow_kept
from tests.samples import ANYTHING, door, nested, plain_kind, ring_house, room, send


def rules_of(house):
    return [(kind, index) for kind in house.kinds() for index in range(len(house[kind].rules()))]


def small_houses(seed, many):
    """Return drawn houses with at most five rules, for which all lots can be compared, and whether each lot serves."""
    chance = source(seed)
    found = []
    while len(found) < many:
        house = draw_house(chance, kinds=chance.choice(["k", "kl"]), most_links=1, most_rules=chance.choice([2, 4, 5]))
        if len(rules_of(house)) > 5:
            continue
        serves = {lot: slow_alike(house, kept(house, lot)) for lot in all_lots(house)}
        if None not in serves.values():
            found.append((house, serves))
    return found


SMALL_HOUSES = small_houses(71, 60)


# Own answers and rules of kinds k, l and m, and what least_rules and spare raise for them.
CROWDED = [
    (["own r self\nsend b = try bare p q\nsend a q try wrap q r", "give a try p r", "give a try q r"], 100, 60),
    (["own q value v\nsend b r last bare p q\ngive b last *", "send a = last bare p r\nsend b q try wrap q r", "self q"],
     60, 60),
    (["give b last p r\nsend b = last wrap *", "own r self\nsend a r try wrap *\nself *", "own r self\ntell v r"], 100, None),
    (["own r self\nbar *\nsend b q last wrap *\nsend a r last wrap *",
      "own q value v\nsend a = last wrap p q\nsend b q last bare *", ""], None, 100),
]


def crowded(kinds):
    """Return a house of kinds with two links that lead everywhere, and these own answers and rules."""
    lines = []
    for name, more in zip("klm", kinds):
        lines += [f"kind {name}", "link a - k l m", "link b - k l m"] + ([more] if more else [])
    return read_house("\n".join(lines))


class TestKept(Case):
    def setUp(self):
        self.house = House([door(), Kind("room", {}, {"key": ("value", "k")}, [("self", ["a"]), ("bar", [])], hidden=True)])
        self.all = [("door", 0), ("door", 1), ("room", 0), ("room", 1)]

    def test_by_hand(self):
        self.assertEqual(kept(self.house, self.all), self.house)
        none = House([Kind("door", {"to": ["room", ""]}, {"sign": ("self",)}, []),
                      Kind("room", {}, {"key": ("value", "k")}, [], hidden=True)])
        self.assertEqual(kept(self.house, []), none)
        self.assertEqual(kept(self.house, ()), none)
        one = kept(self.house, [("door", 1), ("room", 0)])
        self.assertEqual(one["door"].rules(), [("send", (), "to", "", "last", True)])
        self.assertEqual(one["room"].rules(), [("self", ("a",))])
        self.assertTrue(one["room"].hidden)

    def test_any_order_as_lists_or_tuples(self):
        for lot in (self.all, self.all[::-1], self.all[:3], self.all[2:]):
            for given in (lot, tuple(lot), [list(rule) for rule in lot], tuple(list(rule) for rule in lot)):
                self.assertEqual(kept(self.house, given), House([Kind(*parts[:4], hidden=parts[0] == "room")
                                                                 for parts in slow_kept(self.house, lot)]))
        self.assertEqual(kept(self.house, self.all[::-1]), self.house)

    def test_every_lot_of_drawn_houses(self):
        for house, serves in SMALL_HOUSES:
            for lot in serves:
                expected = House([Kind(*parts) for parts in slow_kept(house, lot)])
                self.assertEqual(kept(house, lot[::-1]), expected)

    def test_three_hundred_rules(self):
        house = House([Kind(name, {}, {}, [("tell", ["a"], name)] * 300) for name in "klmn"])
        lot = [(kind, index) for index in range(0, 300, 7) for kind in "nk"]
        told = kept(house, lot)
        self.assertEqual([len(told[kind].rules()) for kind in "klmn"], [43, 0, 0, 43])
        self.assertEqual(kept(house, rules_of(house)), house)

    def test_a_lot_that_is_no_list(self):
        for function, more in ((kept, ()), (paper, ()), (paper_fault, ([],))):
            for wrong in [x for x in ANYTHING if not isinstance(x, (list, tuple))] + [{("door", 0)}, {("door", 0): 1}, "door"]:
                self.assert_error(NoRule, -1, function, self.house, wrong, *more)

    def test_the_first_wrong_element(self):
        wrong = [x for x in ANYTHING if not (isinstance(x, (list, tuple)) and x and x[0] == "door")] + [
            ("door",), ("door", 0, 0), ("door", True), ("door", False), ("door", "0"), ("door", None), ("door", [0]),
            ("door", -1), ("door", 2), ("door", 2 ** 70), ("roof", 0), ("", 0), (0, "door"), (0, 0), (["door"], 0),
            (("door",), 0), ("door", nested(90)), (nested(89), 0), {"door": 0}, "door", ("room", 2), (None, 0), (b"door", 0)]
        for function, more in ((kept, ()), (paper, ()), (paper_fault, ([],))):
            for one in wrong:
                self.assert_error(NoRule, 0, function, self.house, [one], *more)
                self.assert_error(NoRule, 2, function, self.house, (("door", 1), ("room", 0), one, None), *more)
            for lot, index in [([("door", 0)] * 2, 1), ([("door", 0), ("door", 1), ["door", 0]], 2),
                               ([("room", 1), ("door", 0), ("room", 1), ("door", 0)], 2)]:
                self.assert_error(NoRule, index, function, self.house, lot, *more)

    def test_by_keyword_and_arguments_are_not_changed(self):
        lot = [["room", 0], ["door", 1]]
        self.assert_by_keyword(kept(self.house, lot), kept, house=self.house, lot=lot)
        self.assertEqual(lot, [["room", 0], ["door", 1]])


class TestLeastRules(Case):
    def test_by_hand(self):
        self.assertEqual(least_rules(House([plain_kind()])), [()])
        self.assertEqual(spare(House([plain_kind()])), [])
        house = House([door(), room()])
        self.assertEqual(least_rules(house), [(("door", 0), ("door", 1))])
        self.assertEqual(spare(house), [])
        doubled = ring_house(("tell", ["a"], "v"), ("bar", ["a"]), ("tell", ["a"], "v"))
        self.assertEqual(least_rules(doubled), [(("k", 0),), (("k", 2),)])
        self.assertEqual(spare(doubled), [("k", 1), ("k", 2)])
        self.assertEqual(least_rules(ring_house(("bar", []), ("tell", [], "v"))), [()])
        self.assertEqual(spare(ring_house(("bar", []))), [("k", 0)])

    def test_two_kinds(self):
        rules = [("tell", ["a"], "v"), ("bar", ["b"])]
        house = House([Kind("k", {}, {}, rules), Kind("l", {}, {}, rules[::-1])])
        self.assertEqual(least_rules(house), [(("k", 0), ("l", 1))])
        self.assertEqual(spare(house), [("k", 1), ("l", 0)])

    def test_drawn(self):
        sizes = set()
        for house, serves in SMALL_HOUSES:
            all_rules = tuple(rules_of(house))
            serves = {**serves, all_rules: True}
            fewest = min(len(lot) for lot in serves if serves[lot])
            told = least_rules(house)
            self.assertEqual(told, sorted(lot for lot in serves if serves[lot] and len(lot) == fewest))
            self.assertIs(type(told), list)
            told = spare(house)
            self.assertEqual(told, [rule for rule in all_rules if serves[tuple(r for r in all_rules if r != rule)]])
            self.assertIs(type(told), list)
            sizes.add((len(all_rules), fewest))
        self.assertLessEqual({0, 1, 2, 3, 4, 5}, {rules for rules, fewest in sizes})
        self.assertLessEqual({0, 1, 2, 3}, {fewest for rules, fewest in sizes})

    def compared(self, function, *args):
        """Return the lots that are compared, by the numbers of rules that the compared houses have."""
        seen = []

        def watched(house, other):
            seen.append(tuple(len(other[kind].rules()) for kind in other.kinds()))
            return parted(house, other)

        with mock.patch.object(least, "parted", watched):
            function(*args)
        return seen

    def test_which_lots_are_compared(self):
        house = House([Kind("k", {}, {}, [("tell", ["a"], "v"), ("tell", ["a"], "w")]), Kind("l", {}, {}, [("bar", [])])])
        self.assertEqual(self.compared(least_rules, house), [(0, 0), (1, 0), (1, 0), (0, 1)])
        self.assertEqual(self.compared(spare, house), [(1, 1), (1, 1), (2, 0)])
        self.assertEqual(self.compared(paper, house, [("k", 0)]), [(1, 0), (0, 0)])
        # The lot of all rules is not compared, nor is any lot if there is no rule.
        needed = House([Kind("k", {}, {}, [("tell", ["a"], "v"), ("tell", ["b"], "w")])])
        self.assertEqual(self.compared(least_rules, needed), [(0,), (1,), (1,)])
        self.assertEqual(self.compared(paper, needed, [("k", 1), ("k", 0)]), [(0,), (1,), (1,)])
        for function, more in ((least_rules, ()), (spare, ()), (paper, ([],)), (paper_fault, ([], []))):
            self.assertEqual(self.compared(function, House([plain_kind()]), *more), [])

    def test_too_many_rules_come_first(self):
        for house in (ring_house(*[("bar", [])] * 6), wide_house(), wide_house(rules=288),
                      House([Kind("k", {}, {}, [("bar", [])] * 3), Kind("l", {}, {}, [("bar", [])] * 3)])):
            self.assert_error(TooMany, 5, least_rules, house)
            self.assert_error(TooMany, 5, spare, house)
            for lot in ([], None, [("x", 0)], [("k", 0)], [("k", True)]):
                self.assert_error(TooMany, 5, paper, house, lot)
                self.assert_error(TooMany, 5, paper_fault, house, lot, [])
        self.assertEqual(least_rules(ring_house(*[("bar", [])] * 5)), [()])

    def test_too_many_rows_or_pairs_of_a_lot_that_is_compared(self):
        """The first TooMany of the lots in their order, and only of those that are compared."""
        for kinds, least_error, spare_error in CROWDED:
            house = crowded(kinds)
            self.assertEqual(self.first_errors(house), {least_rules: least_error, spare: spare_error})
            for function, error in ((least_rules, least_error), (spare, spare_error)):
                if error is None:
                    function(house)
                else:
                    self.assert_error(TooMany, error, function, house)

    def error_of_lot(self, house, lot):
        """Return what of the TooMany that comparing a lot raises, or None."""
        try:
            parted(house, kept(house, lot))
        except TooMany as error:
            return error.what
        return None

    def first_errors(self, house):
        rules = rules_of(house)
        least_error = found = None
        for lot in all_lots(house)[:-1]:
            if found is not None and len(lot) > found or least_error is not None:
                break
            least_error = self.error_of_lot(house, lot)
            if least_error is None and parted(house, kept(house, lot)) is None:
                found = len(lot)
        spared = [self.error_of_lot(house, [other for other in rules if other != rule]) for rule in rules]
        return {least_rules: least_error, spare: next((error for error in spared if error), None)}

    def test_by_keyword_and_new_lists(self):
        house = House([door(), room()])
        self.assertEqual(least_rules(house=house), least_rules(house))
        self.assertEqual(spare(house=house), spare(house))
        least_rules(house).clear()
        self.assertEqual(least_rules(house), [(("door", 0), ("door", 1))])


class TestPaper(Case):
    def assert_paper(self, house, lot, serves):
        """paper tells what each lesser lot lacks, or raises NotLeast for the first one that serves."""
        given = [list(rule) for rule in reversed(lot)]
        serving = [one for one in [lot] + [one for one in serves if len(one) < len(lot)]
                   if serves[one] != (one is lot)]
        if serving:
            self.assert_error(NotLeast, serving[0], paper, house, given)
            return False
        told = paper(house, given)
        self.assertIs(type(told), list)
        lots = [one for one in serves if len(one) < len(lot)]
        self.assertEqual([element[0] for element in told], lots)
        for lesser, kind, column, graph in told:
            self.assertEqual(parted(house, kept(house, lesser))[:2], (kind, column))
            self.assertEqual(graph.house, house)
            self.assertEqual(graph[0][0], kind)
            self.assertNotEqual(ask(graph, 0, column), ask(graph.over(kept(house, lesser)), 0, column))
        self.assertIsNone(paper_fault(house, given, told))
        return True

    def test_drawn(self):
        told = {True: 0, False: 0}
        for house, serves in SMALL_HOUSES:
            serves = {**serves, tuple(rules_of(house)): True}
            for lot in serves:
                told[self.assert_paper(house, lot, serves)] += 1
        self.assertGreater(min(told.values()), 50)

    def test_not_least(self):
        house = ring_house(("tell", ["a"], "v"), ("bar", ["a"]), ("tell", ["a"], "v"))
        for lot, lesser in [([], ()), ([("k", 1)], (("k", 1),)), ([("k", 2), ("k", 1)], (("k", 1), ("k", 2))),
                            ([("k", 2), ("k", 0)], (("k", 0),)), ([["k", 1], ["k", 0]], (("k", 0),)),
                            ([("k", 2), ("k", 1), ("k", 0)], (("k", 0),))]:
            error = self.error_of(NotLeast, paper, house, lot)
            self.assertEqual(error.what, lesser)
            self.assertIs(type(error.what), tuple)
        self.assertEqual(len(paper(house, [("k", 2)])), 1)
        self.assertEqual(paper(ring_house(("bar", [])), []), [])

    def test_too_many_of_the_lot_and_then_of_the_lesser_lots(self):
        """The lot itself is compared first; the lot of all rules is not compared."""
        told = set()
        for kinds, _, _ in CROWDED:
            house = crowded(kinds)
            lots = all_lots(house)
            errors = {lot: {must: self.lot_error(house, lot, must) for must in (True, False)} for lot in lots}
            for lot in lots[::3] + lots[-1:]:
                compared = [errors[lot][True]] * (lot != lots[-1])
                compared += [errors[one][False] for one in lots if len(one) < len(lot)]
                expected = next((error for error in compared if error is not None), None)
                self.assertEqual(self.lot_fault(house, lot), expected)
                told.add((expected and expected[0], expected and expected[1] == lot, lot == lots[-1]))
        self.assertLessEqual({("TooMany", False, False), ("TooMany", False, True), ("NotLeast", True, False)}, told)

    def lot_error(self, house, lot, must_serve):
        try:
            serves = parted(house, kept(house, lot)) is None
        except TooMany as error:
            return "TooMany", error.what
        return None if serves == must_serve else ("NotLeast", lot)

    def lot_fault(self, house, lot):
        try:
            paper(house, lot)
        except (TooMany, NotLeast) as error:
            return type(error).__name__, error.what
        return None

    def test_by_keyword(self):
        house = House([door(), room()])
        lot = least_rules(house)[0]
        told = paper(house, lot)
        self.assert_by_keyword(told, paper, house=house, lot=lot)
        self.assert_by_keyword(None, paper_fault, house=house, lot=lot, paper=told)


class TestPaperFault(Case):
    def setUp(self):
        self.house = House([Kind("k", {"to": ["k", ""]}, {}, [send(["a"], "b", "try"), ("tell", ["a"], "v")]),
                            Kind("l", {"to": ["k", "l"]}, {"b": ("self",)}, [send(["a"])])])
        self.lot = [("l", 0), ("k", 1)]
        self.lots = [(), (("k", 0),), (("k", 1),), (("l", 0),)]
        house, lot = self.house, self.lot
        self.assertEqual([lot for lot in all_lots(house) if len(lot) < 2], self.lots)
        self.told = paper(house, lot)

    def assert_fault(self, fault, told, lot=None):
        self.assertEqual(paper_fault(self.house, lot or self.lot, told), fault)
        self.assertEqual(paper_fault(self.house, lot or self.lot, tuple(told)), fault)

    def changed(self, index, place, part):
        """Return the certificate with another part in one of its elements."""
        element = list(self.told[index])
        element[place] = part
        return self.told[:index] + [tuple(element)] + self.told[index + 1:]

    def test_as_told(self):
        self.assert_fault(None, self.told)
        self.assert_fault(None, [list(element) for element in self.told])
        self.assert_fault(None, [[[list(rule) for rule in element[0]], *element[1:]] for element in self.told])

    def test_too_few_and_too_many_elements(self):
        for k in range(len(self.told)):
            self.assert_fault(k, self.told[:k])
            self.assert_fault(k, self.told[:k] + self.told[k + 1:])
        self.assert_fault(4, self.told + self.told[-1:])
        self.assert_fault(4, self.told * 2)
        self.assert_fault(1, self.told[:1] * 2 + self.told[1:])
        self.assert_fault(0, [])
        self.assertIsNone(paper_fault(self.house, [], []))
        self.assertEqual(paper_fault(self.house, [], self.told[:1]), 0)

    def test_exchanged_elements(self):
        for k in range(3):
            self.assert_fault(k, self.told[:k] + self.told[k:k + 2][::-1] + self.told[k + 2:])
        self.assert_fault(0, self.told[::-1])

    def test_the_lots_have_fewer_rules_than_the_lot(self):
        self.assert_fault(1, self.told, [("k", 0)])
        self.assert_fault(4, self.told, [("k", 0), ("k", 1), ("l", 0)])
        # Any lot of two rules has the same lesser lots; it is not asked whether it serves.
        self.assert_fault(None, self.told, [("k", 0), ("k", 1)])

    def test_another_lesser_lot(self):
        for k, lot in enumerate(self.lots):
            for other in [one for one in self.lots if one != lot] + [
                    (("k", 0), ("k", 1)), (("k", 5),), (("x", 0),), [("k",)], "k", None, [None], (("k", True),), (("k", "0"),)]:
                self.assert_fault(k, self.changed(k, 0, other))
        # In a larger certificate a lot is written in ascending order only.
        lot = rules_of(self.house)
        told = [(lesser, *(parted(self.house, kept(self.house, lesser)) or ("k", "a", self.told[0][3])))
                for lesser in all_lots(self.house)[:-1]]
        fault = paper_fault(self.house, lot, told)
        for k, (lesser, kind, column, graph) in enumerate(told):
            if len(lesser) == 2:
                other = told[:k] + [(lesser[::-1], kind, column, graph)] + told[k + 1:]
                self.assertEqual(paper_fault(self.house, lot, other), k if fault is None else min(k, fault))

    def test_another_kind_column_or_graph(self):
        """It does not matter whether this is what paper tells, only whether it shows the difference."""
        shown = refuted = 0
        graphs = [Graph(self.house, things) for things in (
            [("k", {"to": None})], [("k", {"to": 0})], [("l", {"to": 0})], [("l", {"to": 1}), ("k", {"to": None})],
            [("k", {"to": 1}), ("k", {"to": None})], [("k", {"to": 1}), ("k", {"to": 1}), ("l", {"to": 0})])]
        for k, lesser in enumerate(self.lots):
            other = kept(self.house, lesser)
            for graph in graphs:
                for kind in ("k", "l", "m", "", "to"):
                    for column in ("", "a", "b", "c", "to", "A"):
                        right = (kind == graph[0][0] and column in ("", "a", "b")
                                 and ask(graph, 0, column) != ask(graph.over(other), 0, column))
                        told = self.told[:k] + [(lesser, kind, column, graph)] + self.told[k + 1:]
                        self.assert_fault(None if right else k, told)
                        shown += right
                        refuted += not right
        self.assertGreater(shown, 10)
        self.assertGreater(refuted, 100)

    def test_a_graph_over_another_house(self):
        for k, (lesser, kind, column, graph) in enumerate(self.told):
            self.assert_fault(k, self.changed(k, 3, graph.over(kept(self.house, lesser))))
            self.assert_fault(k, self.changed(k, 3, Graph(House([plain_kind("k")]), [("k", {})])))
            hidden = self.house.with_kind(Kind("l", self.house["l"].links(), self.house["l"].own(),
                                               self.house["l"].rules(), hidden=True))
            self.assert_fault(k, self.changed(k, 3, graph.over(hidden)))
            same = House([self.house["l"], self.house["k"]])
            self.assert_fault(None, self.changed(k, 3, graph.over(same)))

    def test_elements_of_another_form(self):
        for wrong in [(), self.told[0][:3], self.told[0] + (1,), None, "abcd", {}, 0]:
            self.assert_fault(0, [wrong] + self.told[1:])
        for place in range(1, 4):
            for wrong in (None, 0, [], (), {}, nested(90)):
                self.assert_fault(2, self.changed(2, place, wrong))


if __name__ == "__main__":
    import unittest
    unittest.main()
