"""What can stand at the links of a kind, and all ways in which it can stand there together.

It is given as Sights: objects with the attribute kind and the method look,
which tells what a thing above sees at some positions.
"""


class LinkEnd:
    """The Sights, or None for nowhere, that can stand at a link with these choices.

    Sights that look alike at the positions that are asked there make the same.
    So only the first one of them is tried.
    """

    def __init__(self, choices, asked_there):
        self.choices = choices
        self.asked_there = asked_there
        self.firsts = {}
        self.alike_table = {None: [None]}
        self.old = []
        self.new = [None] if "" in choices else []

    def offer(self, seen):
        """Let a Sight stand here if its kind is a choice."""
        if seen.kind not in self.choices:
            return
        look = seen.look(self.asked_there)
        if look in self.firsts:
            self.alike_table[self.firsts[look]].append(seen)
        else:
            self.firsts[look] = seen
            self.alike_table[seen] = [seen]
            self.new.append(seen)

    def alike(self, seen):
        """Return the list of all that look like one that is tried here; like None for nowhere it is only None."""
        return self.alike_table[seen]

    def grow_old(self):
        """Count all that is new as old."""
        self.old = self.old + self.new
        self.new = []


def ends_asked(panel, kind, asked, sights):
    """Return the list of the LinkEnds of a kind, in the order of its links, with these Sights.

    asked has for each link the positions at which they are told apart.
    """
    ends = [LinkEnd(choices, positions) for choices, positions in zip(list(panel.links(kind).values()), asked)]
    for end in ends:
        for seen in sights:
            end.offer(seen)
    return ends


def link_ends(panel, kind, sights):
    """Return the LinkEnds of a kind at which Sights are told apart only where the kind asks."""
    return ends_asked(panel, kind, panel.asked_at(kind), sights)


def offer_more(ends, sights):
    """Count what stands at the LinkEnds as old, and offer them these Sights."""
    for end in ends:
        end.grow_old()
        for seen in sights:
            end.offer(seen)


def ways(ends, is_first):
    """Return all tuples with one of each of the LinkEnds, at least one of which is new there.

    The first time the empty tuple of a kind without links counts as new, so
    that it comes once, too.
    """
    # The tuples for the links so far, with a new one among them and without.
    fresh = [()] if is_first else []
    stale = [] if is_first else [()]
    for end in ends:
        fresh = ([way + (seen,) for way in fresh for seen in end.old + end.new]
                 + [way + (seen,) for way in stale for seen in end.new])
        stale = [way + (seen,) for way in stale for seen in end.old]
    return fresh


def all_ways(panel, sights):
    """Return the list of all (kind, tuple for its links) that these Sights allow, but for those that look alike."""
    return [(kind, way) for kind in panel.kinds() for way in ways(link_ends(panel, kind, sights), True)]
