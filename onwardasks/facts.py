"""What comes in all graphs of a panel, and how to draw a graph that shows it."""

from onwardasks.closures import items_of, row_sight
from onwardasks.graphs import Graph
from onwardasks.lists import fallen_and_standing, founded_on, full_pair


class Facts:
    """The real rows of a panel, and of what each founded pair is made. Facts never change.

    A graph with one thing for each founded pair, the links of which lead to
    the pairs of which it is made, answers at each derived position as the row
    of its pair tells. So a thing of a full pair has just this row.
    """

    def __init__(self, panel):
        claim_ways = fallen_and_standing(panel)[1]
        self.panel = panel
        self.pair_ways = founded_on(panel, list(claim_ways))
        self.rows = [row for row in claim_ways if full_pair(row) in self.pair_ways]
        # Of a pair (claim, ()) nothing is derived. The claims hold one another up all the way down.
        for row, way in claim_ways.items():
            self.pair_ways[(row, ())] = tuple([None if below is None else (below, ()) for below in way])


def real_sights(facts):
    """Return the list of the Sights of the real rows."""
    return [row_sight(row) for row in facts.rows]


def links_of_chains(kind, way, link, end):
    """Return a list of (row, element) for all real rows that can stand at a link in this way.

    An element is one of a chain as shown takes it: a thing of the kind whose
    link leads on to the row. end is the LinkEnd of the link.
    """
    rows = items_of(way)
    return [(seen.item, (kind, rows[:link] + (seen.item,) + rows[link + 1:], link)) for seen in end.alike(way[link])]


class Sketch:
    """The things of founded pairs in a graph, behind many other things."""

    def __init__(self, many):
        self.many = many
        self.pairs = []
        self.places = {}

    def place_of(self, pair):
        """Return the index of the thing for a pair, or None for nowhere."""
        if pair is None:
            return None
        if pair not in self.places:
            self.places[pair] = self.many + len(self.pairs)
            self.pairs.append(pair)
        return self.places[pair]

    def place_of_row(self, row):
        """Return the index of a thing with a real row, or None for nowhere."""
        return None if row is None else self.place_of(full_pair(row))


def thing(facts, kind, ends):
    """Return a thing of a kind as a graph takes it; ends has the end of each link, ascending."""
    return kind, {link: end for link, end in zip(facts.panel.links(kind), ends)}


def shown(facts, chain, row):
    """Return a Graph over the first house of a chain of things and of a thing with a real row behind it.

    An element of the chain is (kind, way, link): a thing of this kind, with
    things at its links that have the real rows of way, None for nowhere. Its
    link of this number leads to the next element, and from the last one to the
    thing behind the chain. All of these must have the rows that way tells.
    """
    sketch = Sketch(len(chain))
    sketch.place_of_row(row)
    things = []
    for place, (kind, way, onward) in enumerate(chain):
        ends = [place + 1 if link == onward else sketch.place_of_row(below) for link, below in enumerate(way)]
        things.append(thing(facts, kind, ends))
    # The list of pairs grows while the things at their links are given places.
    while len(things) < len(chain) + len(sketch.pairs):
        pair = sketch.pairs[len(things) - len(chain)]
        ends = [sketch.place_of(below) for below in facts.pair_ways[pair]]
        things.append(thing(facts, pair[0][0], ends))
    return Graph(facts.panel.houses()[0], things)
