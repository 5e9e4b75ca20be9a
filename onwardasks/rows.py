"""Rows: what is one, which positions of it share a path, and how one is made of those below."""

from onwardasks.steps import ENDLESS, REFUSED, SELF
from onwardasks.terms import is_index, is_list, is_name

UNKNOWN = ("unknown",)
BARE_ENTRIES = (("self",), ("refused",), ("endless",), ("unknown",))


class Sight:
    """A row as a thing above it sees it: leads tells for each position the first one with the same path."""

    def __init__(self, row):
        self.item = row
        self.kind = row[0]
        self.entries = row[1]
        self.leads = leads_of(row[2], len(row[1]))

    def look(self, positions):
        """Return what a thing above sees that asks at these positions."""
        return self.kind, tuple([self.entries[p] for p in positions]), tuple([self.leads[p] for p in positions])


def leads_of(same, many):
    """Return, for each of many positions, the least position that is joined to it in same, or itself."""
    leads = list(range(many))
    for p, q in same:
        leads[q] = min(leads[q], p)
    return leads


def pairs_within(groups):
    """Return the ascending tuple of the pairs (p, q), p < q, of positions of one group."""
    return tuple(sorted([(p, q) for group in groups for p in group for q in group if p < q]))


def groups_of(leads):
    """Return the lists of positions that have the same lead."""
    groups = {}
    for position, lead in enumerate(leads):
        groups.setdefault(lead, []).append(position)
    return list(groups.values())


def kept_entry(entry, kinds):
    """Return an entry as a tuple, or None if it is none; kinds are those of the panel."""
    if not is_list(entry) or not 1 <= len(entry) <= 2 or not all([isinstance(part, str) for part in entry]):
        return None
    kept = tuple(entry)
    if len(kept) == 1:
        return kept if kept in BARE_ENTRIES else None
    form, told = kept
    if form == "value" and is_name(told) or form == "thing" and told in kinds:
        return kept
    return None


def kept_pair(pair, entries):
    """Return a pair of positions p < q with equal thing entries as a tuple, or None if it is none."""
    if not is_list(pair) or len(pair) != 2 or not all([is_index(p, len(entries)) for p in pair]):
        return None
    p, q = pair
    if p < q and entries[p] == entries[q] and entries[p][0] == "thing":
        return p, q
    return None


def kept_same(same, entries):
    """Return the same of a row with these entries as a tuple, or None if it is none."""
    if not is_list(same):
        return None
    kept = tuple([kept_pair(pair, entries) for pair in same])
    if None in kept:
        return None
    # Pairs that divide the positions into groups are just those that their groups give back.
    if kept != pairs_within(groups_of(leads_of(kept, len(entries)))):
        return None
    return kept


def kept_row(panel, row):
    """Return a row of the panel as nested tuples, or None if it is none."""
    if not is_list(row) or len(row) != 3:
        return None
    kind, entries, same = row
    kinds = panel.kinds()
    if not isinstance(kind, str) or kind not in kinds:
        return None
    if not is_list(entries) or len(entries) != len(panel.columns()):
        return None
    kept = tuple([kept_entry(entry, kinds) for entry in entries])
    if None in kept:
        return None
    kept_pairs = kept_same(same, kept)
    return None if kept_pairs is None else (kind, kept, kept_pairs)


def is_whole(row):
    """Tell whether no entry of a row is unknown."""
    return UNKNOWN not in row[1]


def read_as_endless(row):
    """Return the row with each unknown entry read as endless."""
    kind, entries, same = row
    return kind, tuple([ENDLESS if entry == UNKNOWN else entry for entry in entries]), same


def known_positions(entries):
    """Return the ascending tuple of the positions of known entries."""
    return tuple([p for p, entry in enumerate(entries) if entry != UNKNOWN and entry != ENDLESS])


def entry_of(steps, below):
    """Return the entry that placed steps give, and a mark of its path (None if it has none).

    below is a list with a Sight, or None for nowhere, for each link.
    """
    for step in steps:
        if step.answer is not None:
            return step.answer, None
        seen = below[step.link]
        if seen is not None:
            if step.asked is None:
                return ("thing", seen.kind), (step.link, None)
            entry = seen.entries[step.asked]
            if entry[0] == "thing":
                return entry, (step.link, seen.leads[step.asked])
            if entry == SELF and not step.wraps:
                return ("thing", seen.kind), (step.link, None)
            if entry != REFUSED:
                return entry, None
        if step.is_last:
            return REFUSED, None
    return REFUSED, None


def asked_by(steps, below):
    """Return the list of the (link, position) that placed steps ask, up to the step that tells the entry.

    below is as in entry_of; the entry is a known one.
    """
    asked = []
    for step in steps:
        seen = None if step.answer is not None else below[step.link]
        if seen is not None and step.asked is not None:
            asked.append((step.link, step.asked))
            if seen.entries[step.asked] != REFUSED:
                return asked
        if step.is_last or seen is not None and step.asked is None:
            return asked
    return asked


def made_row(panel, kind, below):
    """Return the row of a kind above Sights, one for each link, ascending, or None for nowhere."""
    entries = []
    groups = {}
    for position, steps in enumerate(panel.steps_of(kind)):
        entry, path = entry_of(steps, below)
        entries.append(entry)
        if path is not None:
            groups.setdefault(path, []).append(position)
    return kind, tuple(entries), pairs_within(list(groups.values()))
