"""Shortest walks that end with a thing of a hidden kind."""

from onwardasks.facts import shown
from onwardasks.hops import Hops


class Escapes:
    """How many names it takes, from the rows of things, to be answered a thing of a hidden kind."""

    def __init__(self, facts):
        house = facts.panel.houses()[0]
        self.hops = Hops(facts)
        self.hidden_kinds = [kind for kind in house.kinds() if house[kind].hidden]
        self.far = {}
        self.measure(facts.rows)

    def measure(self, rows):
        """Set far: a dict from each row from which a walk gets there to the least number of its names."""
        onward = {row: self.hops.anywhere(row) for row in rows}
        many = 0
        found = rows
        while len(found) > 0:
            found = [row for row in rows if row not in self.far and self.any_near(onward[row], many)]
            many += 1
            for row in found:
                self.far[row] = many

    def is_near(self, row, many):
        """Tell whether it takes just so many names from this row, if it is answered and not yet asked."""
        return row[0] in self.hidden_kinds if many == 0 else self.far.get(row) == many

    def any_near(self, rows, many):
        """Tell whether it takes just so many names from one of these rows."""
        return any([self.is_near(row, many) for row in rows])

    def first_hop(self, rows, many):
        """Return the first position at which things with these rows can answer one from which it takes so many names.

        Beside it stands a dict from the rows of these things to the rows of
        those that answer them.
        """
        for position in self.hops.positions():
            ends = {}
            for row in rows:
                for end in self.hops.from_row(row, position):
                    if self.is_near(end, many):
                        ends[end] = row
            if len(ends) > 0:
                return position, ends
        return None

    def first_walk(self, rows, many):
        """Return the list of what first_hop returns for each name of the first walk of so many names from the rows."""
        stages = []
        while many > 0:
            many -= 1
            stages.append(self.first_hop(rows, many))
            rows = list(stages[-1][1])
        return stages


def first_leak(facts, kind):
    """Return the columns of the first shortest walk from the kind to a hidden one, and a Graph of it; or None."""
    escapes = Escapes(facts)
    starts = [row for row in facts.rows if row[0] == kind and row in escapes.far]
    if len(starts) == 0:
        return None
    fewest = min([escapes.far[row] for row in starts])
    stages = escapes.first_walk(starts, fewest)
    last = list(stages[-1][1])[0]
    chain = []
    end = last
    for position, ends in stages[::-1]:
        chain = escapes.hops.chain(ends[end], position, end) + chain
        end = ends[end]
    columns = facts.panel.columns()
    return tuple([columns[position][1] for position, ends in stages]), shown(facts, chain, last)
