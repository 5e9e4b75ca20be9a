"""What is made of lists of rows, or of pairs of a row and its derived positions.

Both are gone through as Sights: objects with the attributes item (the row or
the pair) and kind, which tell what a thing above sees. A row has a Sight of
onwardasks.rows, a pair a PairSight.
"""

from onwardasks.errors import TooMany
from onwardasks.rows import UNKNOWN, Sight, entry_of, known_positions, made_row


class PairSight:
    """A pair (row, derived) as a thing above it sees it: its row, and what is derived of it."""

    def __init__(self, pair):
        row, derived = pair
        self.item = pair
        self.kind = row[0]
        self.full = Sight(row)
        # Which positions are known does not depend on the paths, so all pairs of same may be left out.
        self.derived = Sight((row[0], derived_entries(row[1], derived), ()))


def derived_entries(entries, derived):
    """Return entries with those at positions that are not derived replaced by unknown."""
    return tuple([entry if p in derived else UNKNOWN for p, entry in enumerate(entries)])


def row_sight(row):
    """Return the Sight of a row."""
    return Sight(row)


def pair_sight(pair):
    """Return the PairSight of a pair."""
    return PairSight(pair)


def made_pair(panel, kind, below):
    """Return the pair of a kind above PairSights, one for each link, or None for nowhere."""
    full = [None if seen is None else seen.full for seen in below]
    derived = [None if seen is None else seen.derived for seen in below]
    entries = [entry_of(steps, derived)[0] for steps in panel.steps_of(kind)]
    return made_row(panel, kind, full), known_positions(entries)


def fits(seen, choices):
    """Tell whether a Sight, or None for nowhere, is allowed at a link with these choices."""
    return "" in choices if seen is None else seen.kind in choices


def ways(panel, kind, old, new):
    """Return all tuples of Sights or None, one allowed at each link of a kind, with at least one of the new ones.

    old is empty the first time. Then the empty tuple of a kind without links
    counts as new, so that it comes once, too.
    """
    # The tuples for the links so far, with a new one among them and without.
    fresh = [()] if len(old) == 0 else []
    stale = [()] if len(old) > 0 else []
    for choices in panel.links(kind).values():
        old_here = [seen for seen in old if fits(seen, choices)]
        new_here = [seen for seen in new if fits(seen, choices)]
        fresh = ([way + (seen,) for way in fresh for seen in old_here + new_here]
                 + [way + (seen,) for way in stale for seen in new_here])
        stale = [way + (seen,) for way in stale for seen in old_here]
    return fresh


def all_ways(panel, sights):
    """Return the list of all (kind, tuple for its links) that these Sights allow."""
    return [(kind, way) for kind in panel.kinds() for way in ways(panel, kind, [], [None] + sights)]


def items_of(way):
    """Return the tuple of the rows or pairs of a tuple of Sights, None for nowhere."""
    return tuple([None if seen is None else seen.item for seen in way])


def closure(panel, start, see, make, most):
    """Return a dict whose keys are the least list that contains start and all that is made of it.

    The value of each is the tuple of those of which it was first made, one for
    each link, or None for nowhere; of those of start it is None. see returns
    the Sight of a row or pair, make the one that is made of Sights. It raises
    TooMany(most) as soon as there are more than most.
    """
    stock = {one: None for one in start}
    old = []
    new = [None] + [see(one) for one in start]
    while len(new) > 0:
        found = []
        for kind in panel.kinds():
            for way in ways(panel, kind, old, new):
                one = make(panel, kind, way)
                if one not in stock:
                    if len(stock) >= most:
                        raise TooMany(most)
                    stock[one] = items_of(way)
                    found.append(see(one))
        old = old + new
        new = found
    return stock


def makers_of(panel, rows):
    """Return a dict from each of the rows to the tuples of rows among them, or None for nowhere, that make it."""
    table = {row: [] for row in rows}
    for kind, way in all_ways(panel, [row_sight(row) for row in rows]):
        row = made_row(panel, kind, way)
        if row in table:
            table[row].append(items_of(way))
    return table


def standing_maker(makers, standing):
    """Return the first of the tuples makers whose rows are all keys of standing, or None."""
    for way in makers:
        if all([row is None or row in standing for row in way]):
            return way
    return None
