"""Panels: one house or two alike ones, and the rows of what their things answer."""

from onwardasks.asks import ask, at
from onwardasks.errors import BadPanel, BadRow
from onwardasks.graphs import check_alike
from onwardasks.houses import House
from onwardasks.rows import UNKNOWN, Sight, kept_row, made_row, pairs_within
from onwardasks.steps import Step, plain_steps, without_repeats
from onwardasks.terms import has_keys


def columns_of(houses):
    """Return the list of the columns (side, column) of one House or two."""
    named = []
    for house in houses:
        named.extend(house.names())
    return [(side, name) for side in range(len(houses)) for name in [""] + sorted(set(named))]


def placed(step, side, links, columns):
    """Return a Step with the number of its link, and the position that it asks on this side."""
    if step.answer is not None:
        return step
    asked = None if step.asked is None else columns.index((side, step.asked))
    return Step(None, links.index(step.link), asked, step.is_last, step.wraps)


def placed_steps(houses, columns, kind):
    """Return, for each position, the list of the placed Steps of a kind."""
    links = sorted(houses[0][kind].links())
    table = []
    for side, name in columns:
        steps = without_repeats(plain_steps(houses[side][kind], name))
        table.append([placed(step, side, links, columns) for step in steps])
    return table


def asked_by_link(steps_table, many):
    """Return, for each of many links of a kind, the ascending list of the positions that its placed steps ask there."""
    asked = [[] for link in range(many)]
    for steps in steps_table:
        for step in steps:
            if step.asked is not None:
                asked[step.link].append(step.asked)
    return [sorted(set(positions)) for positions in asked]


class Panel:
    """One house, or two houses of the same shape, looked at by positions. A Panel never changes."""

    def __init__(self, one, other=None):
        if not isinstance(one, House):
            raise BadPanel(0)
        self.house_list = [one]
        if other is not None:
            if not isinstance(other, House):
                raise BadPanel(1)
            check_alike(one, other)
            self.house_list.append(other)
        self.column_list = columns_of(self.house_list)
        self.step_table = {kind: placed_steps(self.house_list, self.column_list, kind) for kind in one.kinds()}
        self.asked_table = {kind: asked_by_link(self.step_table[kind], len(self.links(kind))) for kind in one.kinds()}

    def columns(self):
        """Return the list of the columns (side, column); a position is an index into it."""
        return list(self.column_list)

    def kinds(self):
        """Return the ascending list of the names of the kinds."""
        return self.house_list[0].kinds()

    def houses(self):
        """Return the list of the one or two Houses."""
        return list(self.house_list)

    def links(self, kind):
        """Return a dict from each link of a kind to the ascending tuple of its choices."""
        return self.house_list[0][kind].links()

    def steps_of(self, kind):
        """Return, for each position, the placed Steps of a kind, which exists."""
        return self.step_table[kind]

    def asked_at(self, kind):
        """Return, for each link of a kind, ascending, the ascending list of the positions that are asked there."""
        return list(self.asked_table[kind])


def seen_below(panel, link, choices, row):
    """Return the Sight of a row at a link, None for nowhere, or raise BadRow."""
    if row is None:
        if "" not in choices:
            raise BadRow(link)
        return None
    kept = kept_row(panel, row)
    if kept is None or kept[0] not in choices:
        raise BadRow(link)
    return Sight(kept)


def made(panel, kind, below):
    """Return the row of a thing of a kind, made of the rows at its links, or None for nowhere."""
    links = panel.links(kind)
    if not has_keys(below, links):
        raise BadRow("")
    seen = [seen_below(panel, link, links[link], below[link]) for link in sorted(links)]
    return made_row(panel, kind, seen)


def seed(panel, kind):
    """Return the row of a kind of which nothing is known."""
    panel.links(kind)
    return kind, tuple([UNKNOWN for column in panel.columns()]), ()


def row_of(panel, graph, index):
    """Return the row of a thing in a graph, as it really answers."""
    graphs = [graph.over(house) for house in panel.houses()]
    kind = graph[index][0]
    entries = []
    groups = {}
    for position, (side, name) in enumerate(panel.columns()):
        entry = ask(graphs[side], index, name)
        if entry[0] == "thing":
            path = entry[1]
            groups.setdefault(path, []).append(position)
            entry = ("thing", graph.kind_of(at(graph, index, path)))
        entries.append(entry)
    return kind, tuple(entries), pairs_within(list(groups.values()))
