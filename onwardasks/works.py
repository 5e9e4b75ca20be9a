"""How an ask is worked out, together with all the asks that it needs."""

from onwardasks.steps import ENDLESS, REFUSED, SELF, plain_steps


class Asked:
    """What is known of one ask, a pair (index, column), while it is worked out and when it has ended.

    The answer is kept as ask returns it, but for ("thing", link, below): below
    is the ask whose path goes on behind the link, or None. Whole paths would
    take too much room. end is the index of the thing that is answered.
    """

    def __init__(self):
        self.step_now = 0
        self.answer = None
        self.end = None
        # How often each ask below was sent, and the last one that was sent.
        self.sent = {}
        self.last = None
        self.links_seen = {}


class Known:
    """What is known before an ask: the world it is asked in, steps of its kinds, and the Asked of some asks.

    A world has the property house and the methods kind_of and other_end, as a
    Graph has them. The answer of an ask that is known may be ENDLESS.
    """

    def __init__(self, world, step_table, records):
        self.world = world
        self.step_table = step_table
        self.records = records

    def steps_of(self, index, column):
        """Return the Steps of a thing at a column."""
        kind = self.world.kind_of(index)
        if (kind, column) not in self.step_table:
            self.step_table[(kind, column)] = plain_steps(self.world.house[kind], column)
        return self.step_table[(kind, column)]


class Work:
    """An ask, worked out together with all the asks that it needs and that are not known.

    Each ask is worked out only once, since an ask that has ended would end
    alike each time. A list of the asks that wait stands in the place of
    recursion: they may be many thousands.
    """

    def __init__(self, known, index, column):
        self.known = known
        self.first = (index, column)
        self.is_endless = False
        # Asks in the order in which they are first asked, and those that have ended in the order in which they did.
        self.asked_table = {}
        self.ended = {}
        if self.ended_of(self.first) is None:
            self.work_out()

    def work_out(self):
        """Work out the first ask, up to its end or to where a ring closes."""
        waiting = []
        below = self.first
        while True:
            if below is None:
                waiting.pop()
                if len(waiting) == 0:
                    return
            elif below in self.asked_table:
                self.is_endless = True
                return
            else:
                self.asked_table[below] = Asked()
                waiting.append(below)
            below = self.go_on(waiting[-1])

    def go_on(self, ask_now):
        """Go on with an ask. Return the ask without an answer for which it waits, or None if it has ended."""
        index, column = ask_now
        asked = self.asked_table[ask_now]
        steps = self.known.steps_of(index, column)
        for place in range(asked.step_now, len(steps)):
            step = steps[place]
            other = self.look(asked, index, step)
            below = None if other is None or step.asked is None else (other, step.asked)
            if below is not None:
                if self.ended_of(below) is None:
                    asked.step_now = place
                    return below
                asked.sent[below] = asked.sent.get(below, 0) + 1
                asked.last = below
            if self.answers(asked, index, step, other, below):
                break
        else:
            asked.answer = REFUSED
        self.ended[ask_now] = asked
        return None

    def ended_of(self, one):
        """Return the Asked of an ask that has ended or is known, or None."""
        return self.ended[one] if one in self.ended else self.known.records.get(one)

    def look(self, asked, index, step):
        """Return the index of the thing at which a step looks, or None."""
        if step.answer is not None:
            return None
        asked.links_seen[step.link] = True
        return self.known.world.other_end(index, step.link)

    def answers(self, asked, index, step, other, below):
        """Set the answer if a step gives one; return False if the next one is tried.

        other is the index of the thing at which the step looks, below the ask
        that it sends there, which has ended; None if there is none.
        """
        if step.answer is not None:
            asked.answer = step.answer
            asked.end = index if step.answer == SELF else None
        elif other is not None and below is None:
            asked.answer, asked.end = ("thing", step.link, None), other
        elif other is not None:
            self.pass_on(asked, index, step, below)
        if asked.answer is None and step.is_last:
            asked.answer = REFUSED
        return asked.answer is not None

    def pass_on(self, asked, index, step, below):
        """Set the answer to what a step makes of that of the ask below, unless that was refused."""
        done = self.ended_of(below)
        if done.answer == SELF:
            asked.answer, asked.end = (SELF, index) if step.wraps else (("thing", step.link, None), below[0])
        elif done.answer[0] == "thing":
            asked.answer, asked.end = ("thing", step.link, below), done.end
        elif done.answer != REFUSED:
            asked.answer = done.answer

    def first_answer(self):
        """Return the answer of the first ask, with its whole path."""
        if self.is_endless:
            return ENDLESS
        answer = self.ended_of(self.first).answer
        if answer[0] != "thing":
            return answer
        path = [answer[1]]
        while answer[2] is not None:
            answer = self.ended_of(answer[2]).answer
            path.append(answer[1])
        return "thing", tuple(path)
