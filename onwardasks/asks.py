"""Single asks in a graph: their answers, and what is asked and looked at on the way."""

from onwardasks.errors import NoPath, NoThing
from onwardasks.steps import ENDLESS, REFUSED, SELF, plain_steps
from onwardasks.terms import is_index, is_list


class Work:
    """An ask, worked out together with all the asks that it needs.

    An ask is a pair (index, column). It is worked out only once, since an ask
    that has ended would end alike each time. A list of the asks that wait
    stands in the place of recursion: they may be many thousands.

    An answer is kept as ask returns it, but for ("thing", link, below): below
    is the ask whose path goes on behind the link, or None. Whole paths would
    take too much room.
    """

    def __init__(self, graph, index, column):
        self.world = graph
        self.first = (index, column)
        self.is_endless = False
        self.step_table = {}
        # Asks in the order in which they are first asked; the value is the step at which each one is.
        self.places = {self.first: 0}
        # Asks in the order in which they end.
        self.answer_table = {}
        # For each ask the asks that it sends on, each with how often.
        self.sent_table = {}
        self.looks = {}
        self.work_out()

    def work_out(self):
        """Work out the first ask, up to its end or to where a ring closes."""
        waiting = [self.first]
        while waiting:
            below = self.go_on(waiting[-1])
            if below is None:
                waiting.pop()
            elif below in self.places:
                self.is_endless = True
                return
            else:
                self.places[below] = 0
                waiting.append(below)

    def go_on(self, ask_now):
        """Go on with an ask. Return the unanswered ask for which it waits, or None if it has ended."""
        index, column = ask_now
        steps = self.steps_of(self.world.kind_of(index), column)
        sent = self.sent_table.setdefault(ask_now, {})
        reached = self.places[ask_now]
        for place in range(reached, len(steps)):
            step = steps[place]
            other = self.other_end(index, step)
            below = None if other is None or step.asked is None else (other, step.asked)
            if below is not None:
                if below not in self.answer_table:
                    self.places[ask_now] = place
                    return below
                sent[below] = sent.get(below, 0) + 1
            answer = self.outcome(step, other, below)
            if answer is not None:
                self.answer_table[ask_now] = answer
                return None
        self.answer_table[ask_now] = REFUSED
        return None

    def steps_of(self, kind, column):
        """Return the Steps of a kind at a column."""
        if (kind, column) not in self.step_table:
            self.step_table[(kind, column)] = plain_steps(self.world.house[kind], column)
        return self.step_table[(kind, column)]

    def other_end(self, index, step):
        """Return the index of the thing at which a step looks, or None."""
        if step.answer is not None:
            return None
        self.looks[(index, step.link)] = True
        return self.world.other_end(index, step.link)

    def outcome(self, step, other, below):
        """Return the answer that a step gives, or None if the next one is tried.

        other is the index of the thing at which the step looks, below the ask
        that it sends there, which has an answer; None if there is none.
        """
        if step.answer is not None:
            return step.answer
        if other is not None:
            passed = ("thing", step.link, None) if below is None else self.passed_on(step, below)
            if passed != REFUSED:
                return passed
        return REFUSED if step.is_last else None

    def passed_on(self, step, below):
        """Return what becomes of the answer of the ask below."""
        answer = self.answer_table[below]
        if answer == SELF and not step.wraps:
            return ("thing", step.link, None)
        if answer[0] == "thing":
            return ("thing", step.link, below)
        return answer

    def first_answer(self):
        """Return the answer of the first ask, with its whole path."""
        if self.is_endless:
            return ENDLESS
        answer = self.answer_table[self.first]
        if answer[0] != "thing":
            return answer
        path = [answer[1]]
        while answer[2] is not None:
            answer = self.answer_table[answer[2]]
            path.append(answer[1])
        return ("thing", tuple(path))


def check_index(graph, index):
    """Raise NoThing if index is not the index of a thing."""
    if not is_index(index, len(graph)):
        raise NoThing(index)


def worked(graph, index, name):
    """Return the Work of an ask, or raise NoThing or NoName."""
    check_index(graph, index)
    return Work(graph, index, graph.house.column_of(name))


def ask(graph, index, name):
    """Return the answer of a thing to a name."""
    return worked(graph, index, name).first_answer()


def depth(graph, index, name):
    """Return the greatest number of asks that are worked out at one moment; None if endless."""
    work = worked(graph, index, name)
    if work.is_endless:
        return None
    depths = {}
    # Asks below end first, so their depths are there when they are needed.
    for done in work.answer_table:
        depths[done] = 1 + max([depths[below] for below in work.sent_table[done]], default=0)
    return depths[work.first]


def sends(graph, index, name):
    """Return how often something is asked by a send, repeated asks included; None if endless."""
    work = worked(graph, index, name)
    if work.is_endless:
        return None
    totals = {}
    for done in work.answer_table:
        totals[done] = sum([times * (1 + totals[below]) for below, times in work.sent_table[done].items()])
    return totals[work.first]


def trail(graph, index, name):
    """Return the list of all (index, column) that are asked, in the order of the first time."""
    return list(worked(graph, index, name).places)


def looked(graph, index, name):
    """Return the ascending list of all (index, link) that are looked at."""
    return sorted(worked(graph, index, name).looks)


def at(graph, index, path):
    """Return the index of the thing at the end of a path."""
    check_index(graph, index)
    if not is_list(path):
        raise NoPath(-1)
    reached = index
    for place, link in enumerate(path):
        links = graph[reached][1]
        if not isinstance(link, str) or links.get(link) is None:
            raise NoPath(place)
        reached = links[link]
    return reached
