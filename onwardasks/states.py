"""What can change of a live graph: where its links lead, and the asks that are remembered."""

from onwardasks.steps import ENDLESS
from onwardasks.works import Work


class State:
    """Where the links of things lead, and the remembered asks by their Asked.

    A State that is built upon an older one shares its dicts until one of them
    is to change. So the older one stays as it was.
    """

    def __init__(self, fixed, ends_now, records, older):
        self.fixed = fixed
        self.house_below = fixed.house
        self.ends_now = ends_now
        self.records = records
        self.older = older
        self.has_own_ends = older is None
        self.has_own_records = older is None
        # For each ask a dict of the remembered ones that sent it, and of some that did once; None before it is needed.
        self.senders = None

    @property
    def house(self):
        """The House of the graph."""
        return self.house_below

    def kind_of(self, index):
        """Return the name of the kind of a thing, which exists."""
        return self.fixed.kind_of(index)

    def other_end(self, index, link):
        """Return the index to which a link of a thing leads, or None; both exist."""
        return self.ends_now[(index, link)]

    def upon(self):
        """Return a State that is now the same and leaves this one as it is."""
        return State(self.fixed, self.ends_now, self.records, self)

    def lead(self, index, link, other):
        """Let a link of a thing lead to other, and forget the asks that look at it."""
        if not self.has_own_ends:
            self.ends_now = {one: self.ends_now[one] for one in self.ends_now}
            self.has_own_ends = True
        self.ends_now[(index, link)] = other
        self.forget(index, link)

    def own_records(self):
        """Return the dict of the remembered asks, so that it can be changed."""
        if not self.has_own_records:
            self.records = {one: self.records[one] for one in self.records}
            self.has_own_records = True
        return self.records

    def forget_all(self):
        """Forget all asks."""
        self.records = {}
        self.has_own_records = True
        self.senders = None

    def remember(self, ended):
        """Remember asks that have ended, a dict from each to its Asked."""
        if len(ended) == 0:
            return
        records = self.own_records()
        for one, asked in ended.items():
            records[one] = asked
            if self.senders is not None:
                add_sender(self.senders, one, asked)

    def forget(self, index, link):
        """Forget all asks that look at a link of a thing, themselves or by what they sent."""
        columns = self.house.columns()
        gone = [(index, column) for column in columns if looks_itself(self.records, (index, column), link)]
        if len(gone) == 0:
            return
        records = self.own_records()
        if self.senders is None:
            self.senders = {}
            for one, asked in records.items():
                add_sender(self.senders, one, asked)
        while len(gone) > 0:
            one = gone.pop()
            if one in records:
                del records[one]
                for sender in self.senders.pop(one, {}):
                    if sender in records and one in records[sender].sent:
                        gone.append(sender)


def add_sender(senders, one, asked):
    """Note in senders which asks an ask has sent."""
    for below in asked.sent:
        senders.setdefault(below, {})[one] = True


def looks_itself(records, one, link):
    """Tell whether an ask is remembered that looks at a link of its own thing."""
    return one in records and link in records[one].links_seen


def first_state(graph):
    """Return the State of a Graph, with nothing remembered."""
    ends_now = {(index, link): other for index in range(len(graph)) for link, other in graph[index][1].items()}
    return State(graph, ends_now, {}, None)


def route_of(work):
    """Return the route of the first ask of a Work, which was refused: each ask and the last one that it sent."""
    route = [work.first]
    while work.ended_of(route[-1]).last is not None:
        route.append(work.ended_of(route[-1]).last)
    return tuple(route)


def answer_now(known, index, column):
    """Return the answer of a thing as ask returns it; keep in known all that is found out on the way."""
    work = Work(known, index, column)
    for one, asked in work.asked_table.items():
        if one not in work.ended:
            asked.answer = ENDLESS
        known.records[one] = asked
    return work.first_answer()
