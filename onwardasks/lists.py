"""The lists of a panel, which tell what comes in all graphs, and the judges of such lists."""

from onwardasks.closures import closure, made_pair, makers_of, pair_sight, row_sight, standing_maker
from onwardasks.errors import BadRow
from onwardasks.linkends import all_ways
from onwardasks.panels import seed
from onwardasks.rows import is_whole, kept_row, known_positions, made_row, read_as_endless
from onwardasks.terms import is_index, is_list

MOST_ROWS = 60
MOST_PAIRS = 100


def seeds(panel):
    """Return the list of the seeds of all kinds of a panel."""
    return [seed(panel, kind) for kind in panel.kinds()]


def spread(panel):
    """Return the least list of rows with all seeds and all that is made of it."""
    return sorted(closure(panel, seeds(panel), row_sight, made_row, MOST_ROWS))


def fallen_and_standing(panel):
    """Return the list of the rows that fall, in their order, and a dict of the claims, ascending.

    The value of each claim is a tuple of the claims of which it is made, one
    for each link, or None for nowhere.
    """
    standing = {row: None for row in sorted([read_as_endless(row) for row in spread(panel)])}
    makers = makers_of(panel, list(standing))
    fallen = []
    while True:
        held_by = {row: standing_maker(makers[row], standing) for row in standing}
        weak = [row for row in standing if held_by[row] is None]
        if len(weak) == 0:
            return fallen, held_by
        fallen.extend(weak)
        standing = {row: None for row in standing if held_by[row] is not None}


def claims(panel):
    """Return the greatest list of rows of spread, read as endless, that are made of one another."""
    return list(fallen_and_standing(panel)[1])


def fall(panel):
    """Return the rows that are not claims, in the order in which they fall."""
    return fallen_and_standing(panel)[0]


def founded_on(panel, rows):
    """Return a dict whose keys are the founded pairs above these claims; closure tells the values."""
    return closure(panel, [(row, ()) for row in rows], pair_sight, made_pair, MOST_PAIRS)


def founded(panel):
    """Return the least list of pairs with all (claim, ()) and all that is made of it."""
    return sorted(founded_on(panel, claims(panel)))


def full_pair(row):
    """Return the pair of a row with all positions of known entries as derived."""
    return row, known_positions(row[1])


def real(panel):
    """Return the list of exactly the rows that things have in graphs."""
    rows = claims(panel)
    pairs = founded_on(panel, rows)
    return [row for row in rows if full_pair(row) in pairs]


def kept_rows(panel, rows, whole_only):
    """Return a dict whose keys are the rows of the panel in rows, or raise BadRow."""
    if not is_list(rows):
        raise BadRow(-1)
    kept = {}
    for index, row in enumerate(rows):
        one = kept_row(panel, row)
        if one is None or whole_only and not is_whole(one):
            raise BadRow(index)
        kept[one] = True
    return kept


def spread_fault(panel, rows):
    """Return what rows lack to contain all seeds and all that is made of them, or None."""
    given = kept_rows(panel, rows, False)
    needed = seeds(panel)
    for kind, way in all_ways(panel, [row_sight(row) for row in given]):
        needed.append(made_row(panel, kind, way))
    return least_lack(needed, given)


def least_lack(needed, given):
    """Return ("lacks", x) with the least x of needed that is not in given, or None."""
    lacks = [one for one in needed if one not in given]
    return ("lacks", min(lacks)) if len(lacks) > 0 else None


def fall_fault(panel, rows, order):
    """Return what is wrong with an order in which the rows are said to fall, or None."""
    standing = {read_as_endless(row): True for row in kept_rows(panel, rows, False)}
    if not is_list(order):
        return "row", -1
    makers = makers_of(panel, list(standing))
    for index, one in enumerate(order):
        row = kept_row(panel, one)
        if row is None or row not in standing:
            return "row", index
        if standing_maker(makers[row], standing) is not None:
            return "stands", index
        del standing[row]
    return least_lack([row for row in standing if standing_maker(makers[row], standing) is None], {})


def kept_founded_pair(panel, pair, rows):
    """Return a pair of one of the rows and known positions of it as nested tuples, or None if it is none."""
    if not is_list(pair) or len(pair) != 2 or not is_list(pair[1]):
        return None
    row = kept_row(panel, pair[0])
    derived = tuple(pair[1])
    if row is None or row not in rows or not all([is_index(p, len(row[1])) for p in derived]):
        return None
    known = known_positions(row[1])
    if derived != tuple([p for p in known if p in derived]):
        return None
    return row, derived


def founded_fault(panel, rows, pairs):
    """Return what is wrong with pairs as the list of founded pairs above rows, or None."""
    given_rows = kept_rows(panel, rows, True)
    if not is_list(pairs):
        return "pair", -1
    given = {}
    for index, pair in enumerate(pairs):
        kept = kept_founded_pair(panel, pair, given_rows)
        if kept is None:
            return "pair", index
        given[kept] = True
    needed = [(row, ()) for row in given_rows]
    for kind, way in all_ways(panel, [pair_sight(pair) for pair in given]):
        needed.append(made_pair(panel, kind, way))
    return least_lack(needed, given)
