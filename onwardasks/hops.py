"""Walks in all graphs: which things are answered, and then asked."""

from onwardasks.closures import items_of
from onwardasks.edges import reached, way_to
from onwardasks.facts import real_ways
from onwardasks.rows import entry_of, made_row
from onwardasks.steps import SELF


def handing_edges(facts):
    """Return the edges from each (row, position) with a thing entry to what is behind its link.

    A target is the (row, position) of which the path goes on, or (row, None)
    for the answered thing itself. The value of each edge is an element of a
    chain, as for deeper_edges.
    """
    edges = {}
    for kind in facts.panel.kinds():
        for way in real_ways(facts, kind):
            row = made_row(facts.panel, kind, way)
            for position, steps in enumerate(facts.panel.steps_of(kind)):
                path = entry_of(steps, way)[1]
                if path is not None:
                    link, lead = path
                    targets = edges.setdefault((row, position), {})
                    targets[(way[link].item, lead)] = (kind, items_of(way), link)
    return edges


class Hops:
    """From the row of a thing that is asked to the rows of the things that it can answer."""

    def __init__(self, facts):
        self.facts = facts
        self.edges = handing_edges(facts)
        self.hop_table = {}

    def from_row(self, row, position):
        """Return the list of the rows of the things that a thing with this row can answer at a position."""
        if (row, position) not in self.hop_table:
            found = reached(self.edges, [(row, position)])
            ends = [end for end, lead in found if lead is None]
            self.hop_table[(row, position)] = [row] if row[1][position] == SELF else ends
        return self.hop_table[(row, position)]

    def positions(self):
        """Return the positions, in a list."""
        return list(range(len(self.facts.panel.columns())))

    def anywhere(self, row):
        """Return the list of the rows of the things that a thing with this row can answer to some name."""
        ends = {}
        for position in self.positions():
            for end in self.from_row(row, position):
                ends[end] = True
        return list(ends)

    def chain(self, row, position, end):
        """Return the chain, as shown takes it, from a thing with this row to one that it answers, with the row end."""
        if row[1][position] == SELF:
            return []
        nodes = way_to(reached(self.edges, [(row, position)]), (end, None))
        return [self.edges[node][nodes[place + 1]] for place, node in enumerate(nodes[:-1])]
