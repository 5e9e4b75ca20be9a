"""Houses that are compared, and kinds that answer by what another one has."""

from onwardasks.facts import Facts, shown
from onwardasks.kinds import Kind
from onwardasks.panels import Panel


def parts_at(row, one, other):
    """Tell whether a thing with this row answers differently at two positions, one < other."""
    entries = row[1]
    if entries[one] != entries[other]:
        return True
    return entries[one][0] == "thing" and (one, other) not in row[2]


def parted(one, other):
    """Return None if two Houses answer alike in all graphs, or where they first differ.

    That is a kind, a column, and a Graph over the first House whose thing 0,
    of the kind, answers the column differently over the other one.
    """
    facts = Facts(Panel(one, other))
    columns = facts.panel.columns()
    half = len(columns) // 2
    for kind in facts.panel.kinds():
        rows = [row for row in facts.rows if row[0] == kind]
        for position in range(half):
            for row in rows:
                if parts_at(row, position, position + half):
                    return kind, columns[position][1], shown(facts, [], row)
    return None


def swapped(house, kind, other):
    """Return the house in which one kind has the own answers and the rules of another one."""
    old = house[kind]
    source = house[other]
    return house.with_kind(Kind(kind, old.links(), source.own(), source.rules(), hidden=old.hidden))
