"""What the document says, worked out slowly and in the most direct way, to compare the program with."""

import itertools

UNKNOWN, ENDLESS, REFUSED, SELF = ("unknown",), ("endless",), ("refused",), ("self",)


class Stopped(Exception):
    """An answer that ends everything that waits for it: ("endless",) or ("unknown",)."""


class TooLong(Exception):
    """A slow ask takes too many steps."""


def go_through(kind, column, look):
    """Return the answer of a thing of a Kind to a column.

    look(link, column) returns what the thing at the link answers, look(link,
    None) anything but None if there is a thing; both return None for nowhere.
    """
    if column in kind.own():
        own = kind.own()[column]
        if own[0] != "link":
            return own
        return ("thing", (own[1],)) if look(own[1], None) is not None else REFUSED
    for rule in kind.rules():
        form, names = rule[:2]
        if names and column not in names:
            continue
        if form == "bar":
            return REFUSED
        if form == "tell":
            return ("value", rule[2])
        if form == "self":
            return SELF
        link, manner = rule[2], rule[-1] if form == "give" else rule[4]
        if form == "give":
            if look(link, None) is not None:
                return ("thing", (link,))
        else:
            answer = look(link, rule[3] or column)
            if answer == SELF:
                return SELF if rule[5] else ("thing", (link,))
            if answer is not None and answer[0] == "thing":
                return ("thing", (link,) + answer[1])
            if answer is not None and answer != REFUSED:
                return answer
        if manner == "last":
            return REFUSED
    return REFUSED


class SlowAsk:
    """An ask in a graph by plain recursion, with attributes named as the functions of point 14."""

    def __init__(self, house, things, index, name):
        self.house, self.things = house, things
        self.trail, self.looked, self.sends, self.depth, self.waiting = [], set(), 0, 0, []
        try:
            self.answer = self.ask(index, name if name in house.names() else "")
        except Stopped as stopped:
            self.answer, = stopped.args
            self.sends = self.depth = None
        self.looked = sorted(self.looked)

    def ask(self, index, column):
        if (index, column) in self.waiting:
            raise Stopped(ENDLESS)
        if (index, column) not in self.trail:
            self.trail.append((index, column))
        self.waiting.append((index, column))
        self.depth = max(self.depth, len(self.waiting))
        kind, links = self.things[index]

        def look(link, asked):
            self.looked.add((index, link))
            if links[link] is None:
                return None
            if asked is None:
                return "there"
            self.sends += 1
            if self.sends > 3000:
                raise TooLong
            return self.ask(links[link], asked)

        answer = go_through(self.house[kind], column, look)
        self.waiting.pop()
        return answer


def slow_path_end(things, index, path):
    for link in path:
        index = things[index][1][link]
    return index


def slow_columns(houses):
    names = [""] + sorted({name for house in houses for name in house.names()})
    return [(side, name) for side in range(len(houses)) for name in names]


def row_of_paths(kind, entries, paths):
    """Return the row with the same of these paths; a path is None where there is none."""
    many = range(len(entries))
    return kind, tuple(entries), tuple((p, q) for p in many for q in many
                                       if p < q and paths[p] is not None and paths[p] == paths[q])


def slow_row_of(houses, things, index):
    """Return the row of a thing for the panel of these houses."""
    entries, paths = [], []
    for side, column in slow_columns(houses):
        answer = SlowAsk(houses[side], things, index, column).answer
        paths.append(answer[1] if answer[0] == "thing" else None)
        if answer[0] == "thing":
            answer = ("thing", things[slow_path_end(things, index, answer[1])][0])
        entries.append(answer)
    return row_of_paths(things[index][0], entries, paths)


def slow_made(houses, kind, below):
    """Return the row made of the rows below; a path behind a link is the group of its positions there."""
    columns = slow_columns(houses)
    entries, paths = [], []
    for side, column in columns:
        def look(link, asked):
            row = below[link]
            if row is None or asked is None:
                return row
            place = columns.index((side, asked))
            entry = row[1][place]
            if entry in (UNKNOWN, ENDLESS):
                raise Stopped(entry)
            if entry[0] == "thing":
                group = tuple(p for p in range(len(columns)) if p == place or tuple(sorted((p, place))) in row[2])
                return ("thing", (group,))
            return entry

        try:
            answer = go_through(houses[side][kind], column, look)
        except Stopped as stopped:
            answer, = stopped.args
        path = answer[1] if answer[0] == "thing" else None
        if path is not None and len(path) == 1:
            answer = ("thing", below[path[0]][0])
        elif path is not None:
            answer = below[path[0]][1][path[1][0]]
        entries.append(answer)
        paths.append(path)
    return row_of_paths(kind, entries, paths)


def belows(houses, kind, items, kind_of):
    """Return all dicts from the links of the kind to items that are allowed there, or None."""
    links = houses[0][kind].links()
    ends = [[item for item in items if kind_of(item) in links[link]] + [None] * ("" in links[link]) for link in links]
    return [dict(zip(links, chosen)) for chosen in itertools.product(*ends)]


def kept(memo, kind, below, work):
    """Return what work returns for this kind and these rows or pairs below; it is worked out once only."""
    key = kind, tuple(below.values())
    if key not in memo:
        memo[key] = work(kind, below)
    return memo[key]


def all_made(houses, rows, memo=None):
    """Return the set of all rows that are made of the rows; memo is a dict that keeps what was made."""
    memo = {} if memo is None else memo
    return {kept(memo, kind, below, lambda *args: slow_made(houses, *args))
            for kind in houses[0].kinds() for below in belows(houses, kind, rows, lambda row: row[0])}


def slow_seeds(houses):
    return {(kind, (UNKNOWN,) * len(slow_columns(houses)), ()) for kind in houses[0].kinds()}


def slow_spread(houses, most=10 ** 9):
    """Return the set of the rows of spread, or None if there are more than most."""
    rows, memo = slow_seeds(houses), {}
    while len(rows) <= most:
        more = rows | all_made(houses, rows, memo)
        if more == rows:
            return rows
        rows = more
    return None


def as_endless(row):
    return row[0], tuple(ENDLESS if entry == UNKNOWN else entry for entry in row[1]), row[2]


def slow_fall(houses):
    """Return the list of the rows that fall and the set of those that stand."""
    standing = {as_endless(row) for row in slow_spread(houses)}
    fallen = []
    while True:
        weak = standing - all_made(houses, standing)
        if not weak:
            return fallen, standing
        fallen += sorted(weak)
        standing -= weak


def slow_claims(houses):
    """Return all rows of all lists of rows that hold themselves up (only for a few rows)."""
    rows = sorted({as_endless(row) for row in slow_spread(houses)})
    makers = {row: [] for row in rows}
    for kind in houses[0].kinds():
        for below in belows(houses, kind, rows, lambda row: row[0]):
            made = slow_made(houses, kind, below)
            if made in makers:
                makers[made].append({row for row in below.values() if row is not None})
    held = set()
    for many in range(len(rows) + 1):
        for chosen in map(set, itertools.combinations(rows, many)):
            if all(any(maker <= chosen for maker in makers[row]) for row in chosen):
                held |= chosen
    return held


def known(row):
    return tuple(p for p, entry in enumerate(row[1]) if entry not in (UNKNOWN, ENDLESS))


def masked(pair):
    """Return the row of a pair with all that is not derived replaced by unknown."""
    (kind, entries, same), derived = pair
    return (kind, tuple(entry if p in derived else UNKNOWN for p, entry in enumerate(entries)),
            tuple((p, q) for p, q in same if p in derived and q in derived))


def slow_made_pair(houses, kind, below):
    """Return the pair made of the pairs below."""
    rows = {link: pair and pair[0] for link, pair in below.items()}
    parts = {link: pair and masked(pair) for link, pair in below.items()}
    return slow_made(houses, kind, rows), known(slow_made(houses, kind, parts))


def all_made_pairs(houses, pairs, memo=None):
    """Return the set of all pairs that are made of the pairs; memo is a dict that keeps what was made."""
    memo = {} if memo is None else memo
    return {kept(memo, kind, below, lambda *args: slow_made_pair(houses, *args))
            for kind in houses[0].kinds() for below in belows(houses, kind, pairs, lambda pair: pair[0][0])}


def slow_founded(houses, rows, most=10 ** 9):
    """Return the set of the founded pairs above these rows, or None if there are more than most."""
    pairs, memo = {(row, ()) for row in rows}, {}
    while len(pairs) <= most:
        more = pairs | all_made_pairs(houses, pairs, memo)
        if more == pairs:
            return pairs
        pairs = more
    return None


def all_things(house, many):
    """Go through all lists of many things over the house."""
    for kinds in itertools.product(house.kinds(), repeat=many):
        ends = []
        for kind in kinds:
            links = house[kind].links()
            ways = [[k for k in range(many) if kinds[k] in links[link]] + [None] * ("" in links[link]) for link in links]
            ends.append([dict(zip(links, chosen)) for chosen in itertools.product(*ways)])
        for chosen in itertools.product(*ends):
            yield list(zip(kinds, chosen))


def rows_in_graphs(houses, most):
    """Return the set of the rows of all things in all graphs of at most so many things."""
    return {slow_row_of(houses, things, index)
            for many in range(1, most + 1) for things in all_things(houses[0], many) for index in range(many)}


def slow_follows(house, things, index, link, name, bare=False):
    """Tell whether a thing follows the one at its link at a name (point 28)."""
    answer = SlowAsk(house, things, index, name).answer
    wanted = SlowAsk(house, things, things[index][1][link], name).answer
    if wanted == SELF and bare:
        wanted = ("thing", (link,))
    elif wanted[0] == "thing":
        wanted = ("thing", (link,) + wanted[1])
    return answer == wanted


def slow_hop(house, things, index, name):
    """Return the index of the thing that a thing answers, or None if it answers none."""
    answer = SlowAsk(house, things, index, name).answer
    if answer == SELF:
        return index
    return slow_path_end(things, index, answer[1]) if answer[0] == "thing" else None


def slow_leak(house, things, index, longest):
    """Return the first shortest walk of at most so many names from a thing to a hidden one, or None."""
    for many in range(1, longest + 1):
        for walk in itertools.product(house.columns(), repeat=many):
            end = index
            for name in walk:
                end = None if end is None else slow_hop(house, things, end, name)
            if end is not None and house[things[end][0]].hidden:
                return walk
    return None


def slow_held(house, things, index):
    """Return the set of the kinds of the things with which walks from a thing end."""
    ends, waiting = {index}, [index]
    while waiting:
        here = waiting.pop()
        for name in house.columns():
            end = slow_hop(house, things, here, name)
            if end is not None and end not in ends:
                ends.add(end)
                waiting.append(end)
    return {things[end][0] for end in ends}


def slow_asked(houses, kind, below, position):
    """Return the set of the (row below, position) that are asked at a position of the row made of below."""
    columns = slow_columns(houses)
    side, column = columns[position]
    asked = set()

    def look(link, name):
        row = below[link]
        if row is None or name is None:
            return row
        place = columns.index((side, name))
        asked.add((row, place))
        entry = row[1][place]
        return ("thing", ("on",)) if entry[0] == "thing" else entry

    go_through(houses[side][kind], column, look)
    return asked


def slow_edges(house, rows):
    """Return a dict from each (row, position) with a known entry to the set of those that it asks (point 27)."""
    edges = {(row, position): set() for row in rows for position in known(row)}
    for kind in house.kinds():
        for below in belows([house], kind, rows, lambda row: row[0]):
            row = slow_made([house], kind, below)
            for position in known(row):
                edges[(row, position)] |= slow_asked([house], kind, below, position)
    return edges


def slow_deepest(edges, starts):
    """Return the number of nodes on a longest way; None if one may be longer than there are nodes."""
    many, level = 0, set(starts)
    while level:
        many += 1
        if many > len(edges):
            return None
        level = set().union(*(edges[node] for node in level))
    return many or -1


def slow_alike(one, other):
    """Tell whether two houses are alike, by the rows that are real for both of them; None if these are too many."""
    houses = [one, other]
    if slow_spread(houses, 60) is None:
        return None
    standing = slow_fall(houses)[1]
    pairs = slow_founded(houses, standing, 100)
    if pairs is None:
        return None
    half = len(slow_columns(houses)) // 2
    rows = [row for row in standing if (row, known(row)) in pairs]
    return all(row[1][p] == row[1][p + half] and (row[1][p][0] != "thing" or (p, p + half) in row[2])
               for row in rows for p in range(half))


def slow_kept(house, lot):
    """Return the dicts and lists of which the kinds of the house with these rules only are made."""
    return [(name, house[name].links(), house[name].own(),
             [rule for index, rule in enumerate(house[name].rules()) if (name, index) in lot]) for name in house.kinds()]


def all_lots(house):
    """Return all lots of the house in the order of point 40."""
    rules = [(name, index) for name in house.kinds() for index in range(len(house[name].rules()))]
    return [lot for many in range(len(rules) + 1) for lot in itertools.combinations(rules, many)]
