"""Point 20: the ways in which rows stand at the links of a kind."""

import itertools
import unittest

from onwardasks.closures import all_ways, row_sight, ways
from onwardasks.houses import House
from onwardasks.kinds import Kind
from onwardasks.panels import Panel


class TestWays(unittest.TestCase):
    def setUp(self):
        self.panel = Panel(House([Kind("k", {"a": ["k", "l"], "b": ["l", ""]}, {}, []),
                                  Kind("l", {"c": ["k", ""]}, {}, []), Kind("m", {}, {}, [])]))
        # Eight rows of each kind, as Sights.
        self.sights = {kind: [row_sight((kind, (("value", name),), ())) for name in "abcdefgh"] for kind in "klm"}

    def test_each_way_once(self):
        """Whatever part of the rows is new, all ways come exactly once in the end."""
        mixed = [None] + [sight for group in zip(*self.sights.values()) for sight in group]
        both = self.sights["k"] + self.sights["l"]
        expected = {"k": list(itertools.product(both, self.sights["l"] + [None])),
                    "l": [(sight,) for sight in self.sights["k"] + [None]], "m": [()]}
        for kind, all_expected in expected.items():
            for cuts in ([], [1], [2], [5, 9], range(1, 25), [12, 12]):
                found, start = [], 0
                for end in [*cuts, 25]:
                    found += ways(self.panel, kind, mixed[:start], mixed[start:end])
                    start = end
                self.assertEqual(len(found), len(all_expected))
                self.assertEqual(set(found), set(all_expected))

    def test_all_ways(self):
        found = all_ways(self.panel, self.sights["k"] + self.sights["l"])
        self.assertEqual([kind for kind, way in found], ["k"] * 16 * 9 + ["l"] * 9 + ["m"])
        self.assertEqual(all_ways(self.panel, []), [("l", (None,)), ("m", ())])


if __name__ == "__main__":
    unittest.main()
