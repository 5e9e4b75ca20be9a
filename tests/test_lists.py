"""Points 3 and 20 to 24: spread, claims, fall, founded and real."""

import unittest
from unittest import mock

from onwardasks import lists
from onwardasks.errors import TooMany
from onwardasks.graphs import Graph
from onwardasks.houses import House
from onwardasks.kinds import Kind
from onwardasks.lists import claims, fall, founded, real, spread
from onwardasks.panels import Panel, made, row_of, seed
from tests.crowded import hundred_one_pairs, hundred_pairs, sixty_one_rows, sixty_rows, told_and_sent, wide_house
from tests.drawn import draw_graphs, draw_house, draw_other_house, source
from tests.reference import (
    all_made, all_made_pairs, as_endless, known, rows_in_graphs, slow_claims, slow_fall, slow_founded, slow_spread)
from tests.samples import door, ring_house, room, send

U, E, R, S = ("unknown",), ("endless",), ("refused",), ("self",)
K, L = ("thing", "k"), ("thing", "l")
V = ("value", "v")
FUNCTIONS = [spread, claims, fall, real, founded]


def drawn_houses(seed_, many, **how):
    """Return lists of one house or two alike ones."""
    chance = source(seed_)
    drawn = []
    for _ in range(many):
        one = draw_house(chance, **how)
        drawn.append([one, draw_other_house(chance, one)][:chance.choice([1, 1, 2])])
    return drawn


class TestExample(unittest.TestCase):
    def test_example(self):
        panel = Panel(ring_house(send(["a"], "a"), choices=["k"]))
        self.assertEqual(panel.columns(), [(0, ""), (0, "a")])
        self.assertEqual(spread(panel), [("k", (R, U), ()), ("k", (U, U), ())])
        self.assertEqual(claims(panel), [("k", (R, E), ())])
        self.assertEqual(real(panel), [("k", (R, E), ())])
        self.assertEqual(fall(panel), [("k", (E, E), ())])
        self.assertEqual(founded(panel), [(("k", (R, E), ()), ()), (("k", (R, E), ()), (0,))])

    def test_example_with_a_further_rule(self):
        panel = Panel(ring_house(("tell", ["b"], "v"), send(["a"], "b"), choices=["k"]))
        self.assertEqual(real(panel), [("k", (R, V, V), ())])
        self.assertEqual(claims(panel), [("k", (R, V, V), ())])
        self.assertEqual(spread(panel), [("k", (R, U, V), ()), ("k", (R, V, V), ()), ("k", (U, U, U), ())])


class TestByHand(unittest.TestCase):
    def test_a_kind_without_links(self):
        panel = Panel(House([Kind("k", {}, {"a": ("value", "v"), "b": ("self",)}, [])]))
        row = ("k", (R, V, S), ())
        self.assertEqual(spread(panel), [row, ("k", (U, U, U), ())])
        self.assertEqual(fall(panel), [("k", (E, E, E), ())])
        self.assertEqual([claims(panel), real(panel)], [[row], [row]])
        self.assertEqual(founded(panel), [(row, ()), (row, (0, 1, 2))])

    def test_the_example_of_point_15(self):
        panel = Panel(House([door(), room()]))
        on = ("value", "on")
        self.assertEqual(real(panel), [("door", (R, R, R, R, S), ()), ("door", (R, R, on, S, S), ()),
                                       ("room", (R, ("value", "k"), on, S, R), ())])

    def test_a_value_that_only_holds_itself_up(self):
        # A thing answers v if the thing below does, or if it leads nowhere: in a ring the ask is endless.
        panel = Panel(ring_house(send(["a"], "", "try"), ("tell", ["a"], "v")))
        self.assertEqual(spread(panel), [("k", (R, U), ()), ("k", (R, V), ()), ("k", (U, U), ())])
        self.assertEqual(claims(panel), [("k", (R, E), ()), ("k", (R, V), ())])
        self.assertEqual(real(panel), [("k", (R, E), ()), ("k", (R, V), ())])
        self.assertEqual(founded(panel), [(("k", (R, E), ()), ()), (("k", (R, E), ()), (0,)),
                                          (("k", (R, V), ()), ()), (("k", (R, V), ()), (0,)),
                                          (("k", (R, V), ()), (0, 1))])

    def test_the_order_of_falling(self):
        # "a" asks b below, b asks c below, c is told: so little is unknown, and it falls step by step.
        panel = Panel(ring_house(send(["a"], "b"), send(["b"], "c"), ("tell", ["c"], "v"), choices=["k"]))
        self.assertEqual(fall(panel), [("k", (E, E, E, E), ()), ("k", (R, E, E, V), ()), ("k", (R, E, V, V), ())])
        self.assertEqual(claims(panel), [("k", (R, V, V, V), ())])

    def test_rows_that_become_the_same_when_unknown_is_read_as_endless(self):
        # Beside ("refused", "unknown") there is ("refused", "endless") only behind that reading.
        panel = Panel(ring_house(send(["a"], "a"), choices=["k", ""]))
        self.assertEqual(spread(panel), [("k", (R, R), ()), ("k", (R, U), ()), ("k", (U, U), ())])
        self.assertEqual(real(panel), [("k", (R, E), ()), ("k", (R, R), ())])

    def test_paths_count(self):
        panel = Panel(ring_house(("give", ["a"], "to", "try"), send(["b"], "a", "try"), send(["c"], "a", "try")))
        rows = real(panel)
        self.assertEqual(rows, [("k", (R, R, R, R), ()), ("k", (R, K, R, R), ()), ("k", (R, K, K, K), ((2, 3),))])
        self.assertEqual(set(rows), rows_in_graphs(panel.houses(), 3))

    def test_two_houses(self):
        one, other = ring_house(send(["a"], "", "try"), ("self", ["a"])), ring_house(("give", ["a"], "to", "last"))
        panel = Panel(one, other)
        # In a chain of two both answer the thing at the link; in a longer one only the second house does.
        self.assertEqual(real(panel), sorted([
            ("k", (R, S, R, R), ()), ("k", (R, K, R, K), ((1, 3),)), ("k", (R, K, R, K), ()), ("k", (R, E, R, K), ())]))


class TestAgainstSlowLists(unittest.TestCase):
    def assert_lists(self, houses):
        """Compare all lists with those worked out slowly; return the number of rows of spread."""
        panel = Panel(*houses)
        rows = slow_spread(houses)
        self.assertEqual(spread(panel), sorted(rows))
        fallen, standing = slow_fall(houses)
        self.assertEqual(fall(panel), fallen)
        self.assertEqual(claims(panel), sorted(standing))
        pairs = slow_founded(houses, standing)
        self.assertEqual(founded(panel), sorted(pairs))
        self.assertEqual(real(panel), sorted(row for row in standing if (row, known(row)) in pairs))
        return len(rows)

    def test_drawn(self):
        for houses in drawn_houses(21, 120, most_links=1, most_rules=4):
            self.assert_lists(houses)
        for houses in drawn_houses(22, 60, kinds="klm", most_links=1, names="pqr", most_rules=5):
            if slow_spread(houses, 30) is not None:
                self.assert_lists(houses)

    def test_drawn_with_two_links(self):
        longest = 0
        for houses in drawn_houses(23, 120, most_rules=4):
            if slow_spread(houses, 16) is not None:
                longest = max(longest, self.assert_lists(houses))
        self.assertGreater(longest, 9)

    def test_claims_are_the_greatest_list_that_holds_itself_up(self):
        compared = 0
        for houses in drawn_houses(24, 150, kinds="k", most_rules=5) + drawn_houses(25, 150, most_links=1):
            if len(slow_spread(houses)) <= 9:
                compared += 1
                self.assertEqual(claims(Panel(*houses)), sorted(slow_claims(houses)))
        self.assertGreater(compared, 200)

    def test_kinds_of_what_is_returned(self):
        panel = Panel(ring_house(send(["a"], "", "try"), ("tell", ["a"], "v")))
        for function in FUNCTIONS:
            found = function(panel)
            self.assertIs(type(found), list)
            self.assertEqual({type(one) for one in found}, {tuple})
            found.clear()
            self.assertNotEqual(function(panel), [])
            self.assertEqual(function(panel=panel), function(panel))


class TestReal(unittest.TestCase):
    def test_rows_of_all_small_graphs(self):
        """Point 22: real has exactly the rows of things in graphs; here few things are enough for all of them."""
        full = 0
        for houses in drawn_houses(26, 60, kinds="k", most_links=1, most_rules=5):
            rows = rows_in_graphs(houses, 4)
            self.assertLessEqual(rows, set(real(Panel(*houses))))
            full += len(rows) == len(real(Panel(*houses)))
        self.assertGreater(full, 55)

    def test_rows_of_all_small_graphs_of_two_kinds(self):
        full = 0
        for houses in drawn_houses(27, 40, most_links=1, most_rules=4):
            rows = rows_in_graphs(houses, 3)
            self.assertLessEqual(rows, set(real(Panel(*houses))))
            full += len(rows) == len(real(Panel(*houses)))
        self.assertGreater(full, 30)

    def test_rows_of_drawn_graphs(self):
        chance = source(28)
        seen = 0
        for houses in drawn_houses(29, 60, kinds="klm", names="pqr", most_rules=5):
            panel = Panel(*houses)
            try:
                rows, pairs = real(panel), founded(panel)
            except TooMany:
                continue
            for graph in draw_graphs(chance, houses[0], 15, most=8):
                for k in range(len(graph)):
                    row = row_of(panel, graph, k)
                    self.assertIn(row, rows)
                    self.assertIn((row, known(row)), pairs)
                    seen += 1
        self.assertGreater(seen, 1000)

    def test_closed(self):
        for houses in drawn_houses(30, 80, most_rules=5):
            panel = Panel(*houses)
            try:
                rows, claimed, pairs = real(panel), claims(panel), founded(panel)
            except TooMany:
                continue
            self.assertEqual(all_made(houses, rows), set(rows))
            self.assertEqual(all_made(houses, claimed), set(claimed))
            self.assertLessEqual(all_made_pairs(houses, pairs), set(pairs))
            self.assertLessEqual(set(rows), set(claimed))
            self.assertEqual(sorted(claimed + fall(panel)), sorted({as_endless(row) for row in spread(panel)}))
            self.assertTrue(all(seed(panel, kind) in spread(panel) for kind in panel.kinds()))

    def test_a_claim_that_is_not_real(self):
        # In a ring of things "k" the answer to "" and p would only be handed round: it is endless.
        kinds = [Kind("k", {"to": ["k", "l"]}, {}, [send(["p"], "p"), send([], "", "try", True), send([], "p", "try", True)]),
                 Kind("l", {"to": ["l"]}, {"p": ("self",)}, [send(["p", "q"], "p")])]
        panel = Panel(House(kinds))
        rows = [("k", (E, E, E), ()), ("k", (S, L, L), ()), ("l", (R, S, L), ())]
        self.assertEqual(real(panel), rows)
        self.assertEqual(claims(panel), sorted(rows + [("k", (S, L, E), ())]))
        self.assertEqual(set(rows), rows_in_graphs(panel.houses(), 3))


class TestTooMany(unittest.TestCase):
    def assert_too_many(self, many, function, panel):
        with self.assertRaises(TooMany) as caught:
            function(panel)
        self.assertEqual(caught.exception.what, many)

    def test_sixty_rows(self):
        panel = Panel(sixty_rows())
        self.assertEqual(len(spread(panel)), 60)
        self.assertEqual(spread(panel), sorted(slow_spread(panel.houses())))
        self.assertEqual(sorted(claims(panel) + fall(panel)), sorted({as_endless(row) for row in spread(panel)}))

    def test_sixty_one_rows(self):
        panel = Panel(sixty_one_rows())
        self.assertEqual(len(slow_spread(panel.houses())), 61)
        for function in FUNCTIONS:
            self.assert_too_many(60, function, panel)
        with mock.patch.object(lists, "MOST_ROWS", 61):
            self.assertEqual(spread(panel), sorted(slow_spread(panel.houses())))

    def test_hundred_pairs(self):
        panel = Panel(hundred_pairs())
        self.assertEqual(len(founded(panel)), 100)
        self.assertEqual(founded(panel), sorted(slow_founded(panel.houses(), claims(panel))))
        self.assertGreater(len(real(panel)), 1)

    def test_hundred_one_pairs(self):
        panel = Panel(hundred_one_pairs())
        self.assertEqual(len(slow_founded(panel.houses(), claims(panel))), 101)
        for function in (founded, real):
            self.assert_too_many(100, function, panel)
        for function in (spread, claims, fall):
            self.assertGreater(len(function(panel)), 1)

    def test_ninety_nine_pairs_and_one_more_or_two(self):
        """Two kinds with two links have many pairs, of which few look different from above."""
        self.assertEqual(len(founded(Panel(told_and_sent(None)))), 99)
        panel = Panel(told_and_sent(Kind("u", {"q": ["u"]}, {}, [send([], link="q")])))
        self.assertEqual(len(founded(panel)), 100)
        self.assertEqual(len(real(panel)), 22)
        panel = Panel(told_and_sent(Kind("u", {}, {}, [("bar", [])], hidden=True)))
        for function in (founded, real):
            self.assert_too_many(100, function, panel)
        self.assertEqual(len(claims(panel)), 22)

    def test_few_rows_and_pairs_are_made_for_a_house_at_its_bound(self):
        """All pairs at both links would be thousands of ways; most of them look alike where the kinds ask."""
        panel = Panel(told_and_sent(Kind("u", {"q": ["u"]}, {}, [send([], link="q")])))
        with mock.patch.object(lists, "made_pair", wraps=lists.made_pair) as counted:
            self.assertEqual(sorted(founded(panel)), sorted(slow_founded(panel.houses(), claims(panel))))
        self.assertLess(counted.call_count, 300)

    def test_wide_houses(self):
        for house in (wide_house(), wide_house(rules=288)):
            for panel in (Panel(house), Panel(house, house)):
                for function in FUNCTIONS:
                    self.assert_too_many(60, function, panel)

    def test_the_work_stops_as_soon_as_there_are_too_many(self):
        panel = Panel(wide_house(), wide_house())
        with mock.patch.object(lists, "made_row", wraps=lists.made_row) as counted:
            self.assert_too_many(60, spread, panel)
        self.assertLess(counted.call_count, 4 * 61 * 61)


if __name__ == "__main__":
    unittest.main()
