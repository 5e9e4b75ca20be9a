"""Walks in all graphs: which things are answered, and then asked."""

from onwardasks.edges import reached, way_to
from onwardasks.facts import links_of_chains, real_sights
from onwardasks.linkends import link_ends, ways
from onwardasks.rows import entry_of, made_row
from onwardasks.steps import SELF


def add_handing(edges, panel, kind, ends, way):
    """Add the edges for one way in which real rows stand at the LinkEnds of a kind."""
    row = made_row(panel, kind, way)
    for position, steps in enumerate(panel.steps_of(kind)):
        path = entry_of(steps, way)[1]
        if path is not None:
            link, lead = path
            targets = edges.setdefault((row, position), {})
            for below, element in links_of_chains(kind, way, link, ends[link]):
                targets[(below, lead)] = element


def handing_edges(facts):
    """Return the edges from each (row, position) with a thing entry to what is behind its link.

    A target is the (row, position) of which the path goes on, or (row, None)
    for the answered thing itself. The value of each edge is an element of a
    chain as shown takes it: a thing with this row, the link of which leads to
    the row of the target.
    """
    edges = {}
    for kind in facts.panel.kinds():
        ends = link_ends(facts.panel, kind, real_sights(facts))
        for way in ways(ends, True):
            add_handing(edges, facts.panel, kind, ends, way)
    return edges


class Hops:
    """From the row of a thing that is asked to the rows of the things that it can answer."""

    def __init__(self, facts):
        self.facts = facts
        self.edges = handing_edges(facts)
        self.hop_table = {}

    def from_row(self, row, position):
        """Return the list of the rows of the things that a thing with this row can answer at a position."""
        if (row, position) not in self.hop_table:
            found = reached(self.edges, [(row, position)])
            ends = [end for end, lead in found if lead is None]
            self.hop_table[(row, position)] = [row] if row[1][position] == SELF else ends
        return self.hop_table[(row, position)]

    def positions(self):
        """Return the positions, in a list."""
        return list(range(len(self.facts.panel.columns())))

    def anywhere(self, row):
        """Return the list of the rows of the things that a thing with this row can answer to some name."""
        ends = {}
        for position in self.positions():
            for end in self.from_row(row, position):
                ends[end] = True
        return list(ends)

    def chain(self, row, position, end):
        """Return the chain, as shown takes it, from a thing with this row to one that it answers, with the row end."""
        if row[1][position] == SELF:
            return []
        nodes = way_to(reached(self.edges, [(row, position)]), (end, None))
        return [self.edges[node][nodes[place + 1]] for place, node in enumerate(nodes[:-1])]
