"""Single rows and asks in all graphs: graphs for rows, and how deep asks go."""

from onwardasks.edges import long_way, most_nodes
from onwardasks.errors import NoRow
from onwardasks.facts import Facts, links_of_chains, real_sights, shown
from onwardasks.houses import check_kind
from onwardasks.linkends import link_ends, ways
from onwardasks.panels import Panel
from onwardasks.rows import asked_by, is_whole, kept_row, known_positions, made_row
from onwardasks.steps import ENDLESS
from onwardasks.terms import is_flag

MOST_LEAST = 60


def graph_of(panel, row):
    """Return a Graph over the first house whose thing 0 has exactly this row."""
    kept = kept_row(panel, row)
    if kept is None or not is_whole(kept):
        raise NoRow()
    facts = Facts(panel)
    if kept not in facts.rows:
        raise NoRow()
    return shown(facts, [], kept)


def position_of(house, kind, name):
    """Return the position of the column of a name, or raise NoKind or NoName."""
    check_kind(house, kind)
    return house.columns().index(house.column_of(name))


def entries_of(facts, kind, position):
    """Return the ascending list of the entries that things of a kind have at a position."""
    return sorted(set([row[1][position] for row in facts.rows if row[0] == kind]))


def answers(house, kind, name):
    """Return the ascending list of what things of a kind answer to a name in all graphs."""
    position = position_of(house, kind, name)
    return entries_of(Facts(Panel(house)), kind, position)


def ends(house, kind, name):
    """Tell whether this ask of a thing of the kind ends in all graphs."""
    return ENDLESS not in answers(house, kind, name)


def add_asked(edges, panel, kind, all_ends, way):
    """Add the edges for one way in which real rows stand at the LinkEnds of a kind."""
    row = made_row(panel, kind, way)
    for position, steps in enumerate(panel.steps_of(kind)):
        if (row, position) in edges:
            for link, asked in asked_by(steps, way):
                for below, element in links_of_chains(kind, way, link, all_ends[link]):
                    edges[(row, position)][(below, asked)] = element


def deeper_edges(facts):
    """Return the edges from each (row, position) with a known entry to the (row, position) that it asks.

    The value of each edge is an element of a chain as shown takes it: a thing
    with this row, the link of which leads to the row asked.
    """
    edges = {(row, position): {} for row in facts.rows for position in known_positions(row[1])}
    for kind in facts.panel.kinds():
        all_ends = link_ends(facts.panel, kind, real_sights(facts))
        for way in ways(all_ends, True):
            add_asked(edges, facts.panel, kind, all_ends, way)
    return edges


def starts_of(edges, kind, position):
    """Return the list of the nodes of edges for rows of a kind at a position."""
    return [node for node in edges if node[0][0] == kind and node[1] == position]


def deepest(house, kind, name):
    """Return the greatest depth of this ask where it ends; -1 if it never does, None if there is no greatest."""
    position = position_of(house, kind, name)
    edges = deeper_edges(Facts(Panel(house)))
    starts = starts_of(edges, kind, position)
    return -1 if len(starts) == 0 else most_nodes(edges, starts)


def is_least(least):
    """Tell whether least is a depth for which deep_graph looks."""
    return isinstance(least, int) and not is_flag(least) and 1 <= least <= MOST_LEAST


def deep_graph(house, kind, name, least):
    """Return a Graph in which this ask of thing 0, of the kind, ends with a depth of at least least."""
    position = position_of(house, kind, name)
    if not is_least(least):
        raise NoRow()
    facts = Facts(Panel(house))
    edges = deeper_edges(facts)
    nodes = long_way(edges, starts_of(edges, kind, position), least - 1)
    if nodes is None:
        raise NoRow()
    chain = [edges[node][nodes[place + 1]] for place, node in enumerate(nodes[:-1])]
    return shown(facts, chain, nodes[-1][0])
