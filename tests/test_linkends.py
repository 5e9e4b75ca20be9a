"""Point 20: the ways in which rows stand at the links of a kind."""

import itertools
import unittest

from onwardasks.closures import pair_sight, row_sight
from onwardasks.houses import House
from onwardasks.kinds import Kind
from onwardasks.linkends import all_ways, ends_asked, link_ends, offer_more, ways
from onwardasks.panels import Panel
from tests.samples import send


def value_row(kind, *values):
    return kind, tuple(("value", value) for value in values), ()


class TestWays(unittest.TestCase):
    def setUp(self):
        rules = [send(["p"], "", "try", link="b"), send([], link="a")]
        self.panel = Panel(House([Kind("k", {"a": ["k", "l"], "b": ["l", ""]}, {}, rules),
                                  Kind("l", {"c": ["k", ""]}, {}, [send([], "p", link="c")]), Kind("m", {}, {}, [])]))
        # Eight rows of each kind, as Sights, which differ in the entry for p.
        self.sights = {kind: [row_sight(value_row(kind, "v", name)) for name in "abcdefgh"] for kind in "klm"}

    def test_positions_that_are_asked(self):
        self.assertEqual([self.panel.asked_at(kind) for kind in "klm"], [[[0, 1], [1]], [[1]], []])

    def test_each_way_once(self):
        """Whatever part of the rows is new, all ways come exactly once in the end."""
        mixed = [sight for group in zip(*self.sights.values()) for sight in group]
        both = [sight for sight in mixed if sight.kind in "kl"]
        expected = {"k": list(itertools.product(both, self.sights["l"] + [None])),
                    "l": [(sight,) for sight in self.sights["k"] + [None]], "m": [()]}
        for kind, all_expected in expected.items():
            for cuts in ([], [0], [1], [2], [5, 9], range(1, 24), [12, 12]):
                start = cuts[0] if cuts else 24
                ends = link_ends(self.panel, kind, mixed[:start])
                found = ways(ends, True)
                for end in [*cuts[1:], 24]:
                    offer_more(ends, mixed[start:end])
                    found += ways(ends, False)
                    start = end
                self.assertEqual(len(found), len(all_expected))
                self.assertEqual(set(found), set(all_expected))

    def test_all_ways(self):
        found = all_ways(self.panel, self.sights["k"] + self.sights["l"])
        self.assertEqual([kind for kind, way in found], ["k"] * 16 * 9 + ["l"] * 9 + ["m"])
        self.assertEqual(all_ways(self.panel, []), [("l", (None,)), ("m", ())])

    def test_only_one_of_those_that_look_alike(self):
        """The kind "l" asks at p only: rows that differ elsewhere make the same above it."""
        sights = [row_sight(value_row("k", other, name)) for name in "ab" for other in "vwv"]
        end, = link_ends(self.panel, "l", sights)
        self.assertEqual(ways([end], True), [(None,), (sights[0],), (sights[3],)])
        self.assertEqual(end.alike(sights[0]), sights[:3])
        self.assertEqual(end.alike(sights[3]), sights[3:])
        self.assertEqual(end.alike(None), [None])
        offer_more([end], [sights[0], sights[4]])
        self.assertEqual(ways([end], False), [])
        end, = ends_asked(self.panel, "l", [[0]], sights)
        self.assertEqual(ways([end], True), [(None,), (sights[0],), (sights[1],)])
        end, = ends_asked(self.panel, "l", [[]], sights)
        self.assertEqual(ways([end], True), [(None,), (sights[0],)])

    def test_what_tells_rows_apart(self):
        """The kind, the entries asked, and which of these have the same path."""
        things = tuple(("thing", "k") for _ in range(3))
        house = House([Kind("k", {"a": ["k", "l"]}, {}, [send(["p", "q"], link="a")]), Kind("l", {}, {}, [])])
        rows = [("k", things, ()), ("l", things, ()), ("k", things, ((1, 2),)), ("k", things, ((0, 1),)),
                ("k", things, ((0, 1), (0, 2), (1, 2))), ("k", (("self",),) + things[1:], ())]
        found = ways(link_ends(Panel(house), "k", [row_sight(row) for row in rows]), True)
        # The last row differs from the first one only where nothing is asked.
        self.assertLessEqual({rows[0], rows[1], rows[2]}, {sight.item for sight, in found})
        self.assertNotIn(rows[5], [sight.item for sight, in found])

    def test_what_tells_pairs_apart(self):
        row = value_row("k", "v", "w")
        pairs = [(row, derived) for derived in ((), (0,), (1,), (0, 1))]
        found = ways(link_ends(self.panel, "l", [pair_sight(pair) for pair in pairs]), True)
        self.assertEqual([way[0] and way[0].item for way in found], [None, pairs[0], pairs[2]])


if __name__ == "__main__":
    unittest.main()
