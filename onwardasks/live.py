"""Live graphs: their links can be set, and they remember what was asked."""

from onwardasks.errors import BadLink, Endless, NoThing, Refused
from onwardasks.graphs import Graph, may_lead
from onwardasks.states import answer_now, first_state, route_of
from onwardasks.steps import REFUSED
from onwardasks.terms import is_index
from onwardasks.works import Known, Work


class Thing:
    """A thing of a Live object, which is asked by a call. It answers by the links as they are then."""

    def __init__(self, live, index, kind):
        self.live = live
        self.index = index
        self.kind = kind

    def __call__(self, name):
        work = self.live.work(self.index, name, self.live.state.records)
        self.live.state.remember(work.ended)
        return told(self.live, work, name)

    def peek(self, name):
        """Return or raise what a call does, without what is remembered and without remembering it."""
        return told(self.live, self.live.work(self.index, name, {}), name)

    def has(self, name):
        """Tell whether the answer is a value or a thing, without what is remembered and without remembering it."""
        work = self.live.work(self.index, name, {})
        return not work.is_endless and work.ended_of(work.first).answer != REFUSED

    def __eq__(self, other):
        return isinstance(other, Thing) and self.live == other.live and self.index == other.index


def told(live, work, name):
    """Return what the first ask of a Work of a Live object tells: a value or a Thing; or raise Refused or Endless."""
    if work.is_endless:
        raise Endless(name)
    asked = work.ended_of(work.first)
    if asked.answer == REFUSED:
        raise Refused(name, route_of(work))
    return asked.answer[1] if asked.answer[0] == "value" else live[asked.end]


class Held:
    """A block behind which the links and the remembered asks of a Live object are what they were before."""

    def __init__(self, live):
        self.live = live

    def __enter__(self):
        self.live.state = self.live.state.upon()

    def __exit__(self, kind, value, trace):
        self.live.state = self.live.state.older


class Live:
    """A graph whose links can be set and which remembers answers."""

    def __init__(self, graph):
        self.state = first_state(graph)
        self.step_table = {}
        self.kinds_here = [graph.kind_of(index) for index in range(len(graph))]
        self.all_things = [Thing(self, index, kind) for index, kind in enumerate(self.kinds_here)]

    def work(self, index, name, records):
        """Return the Work of an ask by the links as they are now, with these asks known; or raise NoName."""
        column = self.state.house.column_of(name)
        return Work(Known(self.state, self.step_table, records), index, column)

    def graph(self):
        """Return a new Graph with the links as they are."""
        things = []
        for thing in self.all_things:
            links = self.state.house[thing.kind].links()
            things.append((thing.kind, {link: self.state.other_end(thing.index, link) for link in links}))
        return Graph(self.state.house, things)

    def remembered(self):
        """Return the ascending list of the remembered asks (index, column)."""
        return sorted(self.state.records)

    def held(self):
        """Return an object for a with statement; behind its block links and remembered asks are as before it."""
        return Held(self)

    def trial(self, settings, index, name):
        """Return what a thing answers, as ask does, if links are set for a trial only."""
        with Held(self):
            # What is remembered is not needed here, and need not be looked through for each setting.
            self.state.forget_all()
            for place, link, other in settings:
                self[place, link] = other
            thing = self[index]
            return self.work(thing.index, name, {}).first_answer()

    def tables(self):
        """Go through the tuples of the index of each thing and its answers to all columns, as ask tells them."""
        known = Known(self.state, self.step_table, {})
        columns = self.state.house.columns()
        for index in range(len(self.all_things)):
            yield index, tuple([answer_now(known, index, column) for column in columns])

    def __len__(self):
        return len(self.all_things)

    def __getitem__(self, at):
        if not is_index(at, len(self.all_things)):
            raise NoThing(at)
        return self.all_things[at]

    def __setitem__(self, at, worth):
        index, link = at
        choices = self.state.house[self[index].kind].links()
        if not isinstance(link, str) or link not in choices or not may_lead(choices[link], worth, self.kinds_here):
            raise BadLink(link)
        self.state.lead(index, link, worth)

    def __iter__(self):
        raise TypeError("a Live object is not iterated over: use len and an index")
