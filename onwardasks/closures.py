"""What is made of lists of rows, or of pairs of a row and its derived positions.

Both are gone through as Sights: objects with the attributes item (the row or
the pair) and kind, which tell what a thing above sees. A row has a Sight of
onwardasks.rows, a pair a PairSight.
"""

from onwardasks.errors import TooMany
from onwardasks.linkends import link_ends, offer_more, ways
from onwardasks.rows import UNKNOWN, Sight, entry_of, known_positions, made_row


class PairSight:
    """A pair (row, derived) as a thing above it sees it: its row, and what is derived of it."""

    def __init__(self, pair):
        row, derived = pair
        self.item = pair
        self.kind = row[0]
        self.full = Sight(row)
        # Which positions are known does not depend on the paths, so all pairs of same may be left out.
        self.derived = Sight((row[0], derived_entries(row[1], derived), ()))

    def look(self, positions):
        """Return what a thing above sees that asks at these positions."""
        return self.full.look(positions), tuple([self.derived.entries[p] == UNKNOWN for p in positions])


def derived_entries(entries, derived):
    """Return entries with those at positions that are not derived replaced by unknown."""
    return tuple([entry if p in derived else UNKNOWN for p, entry in enumerate(entries)])


def row_sight(row):
    """Return the Sight of a row."""
    return Sight(row)


def pair_sight(pair):
    """Return the PairSight of a pair."""
    return PairSight(pair)


def made_pair(panel, kind, below):
    """Return the pair of a kind above PairSights, one for each link, or None for nowhere."""
    full = [None if seen is None else seen.full for seen in below]
    derived = [None if seen is None else seen.derived for seen in below]
    entries = [entry_of(steps, derived)[0] for steps in panel.steps_of(kind)]
    return made_row(panel, kind, full), known_positions(entries)


def items_of(way):
    """Return the tuple of the rows or pairs of a tuple of Sights, None for nowhere."""
    return tuple([None if seen is None else seen.item for seen in way])


def closure(panel, start, see, make, most):
    """Return a dict whose keys are the least list that contains start and all that is made of it.

    The value of each is the tuple of those of which it was first made, one for
    each link, or None for nowhere; of those of start it is None. see returns
    the Sight of a row or pair, make the one that is made of Sights. It raises
    TooMany(most) as soon as there are more than most.
    """
    stock = {one: None for one in start}
    found = [see(one) for one in start]
    ends = {kind: link_ends(panel, kind, found) for kind in panel.kinds()}
    is_first = True
    while is_first or len(found) > 0:
        found = []
        for kind in ends:
            for way in ways(ends[kind], is_first):
                one = make(panel, kind, way)
                if one not in stock:
                    if len(stock) >= most:
                        raise TooMany(most)
                    stock[one] = items_of(way)
                    found.append(see(one))
        is_first = False
        for ends_of_kind in ends.values():
            offer_more(ends_of_kind, found)
    return stock


def makers_of(panel, rows):
    """Return a dict from each of the rows to the tuples of lists that make it.

    A tuple has one list for each link: any of its rows, or None for nowhere,
    can stand there.
    """
    table = {row: [] for row in rows}
    for kind in panel.kinds():
        ends = link_ends(panel, kind, [row_sight(row) for row in rows])
        for way in ways(ends, True):
            row = made_row(panel, kind, way)
            if row in table:
                table[row].append(tuple([items_of(end.alike(seen)) for end, seen in zip(ends, way)]))
    return table


def standing_maker(makers, standing):
    """Return the first of the tuples of rows of makers that are all keys of standing, or None.

    makers is a list of tuples of lists, as makers_of tells them. None stands
    for nowhere in a tuple of rows.
    """
    for lists in makers:
        found = [[row for row in rows if row is None or row in standing] for rows in lists]
        if all([len(rows) > 0 for rows in found]):
            return tuple([rows[0] for rows in found])
    return None
