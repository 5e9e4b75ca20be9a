"""Two things as one: a kind that answers as a thing does together with the one at its link."""

from onwardasks.errors import BadKind, Bare, NoKind
from onwardasks.houses import check_kind, check_link
from onwardasks.kinds import Kind
from onwardasks.steps import REFUSED, SELF, Step, ending, plain_steps
from onwardasks.terms import has_keys, is_flag, is_name

MOST_JOINED = 2


def taken(steps):
    """Return the steps up to the first one behind which none is tried."""
    for place, step in enumerate(steps):
        if step.is_last:
            return steps[:place + 1]
    return steps


def answers_itself(step):
    """Tell whether a step may answer the thing that is asked itself."""
    return step.answer == SELF or step.asked is not None and step.wraps


def is_told(step):
    """Tell whether a step ends an ask with a value or with the thing itself."""
    return step.answer is not None and step.answer != REFUSED


def ended(steps):
    """Return the same Steps, of which the last one ends the ask in any case."""
    if len(steps) == 0:
        return [ending(REFUSED)]
    last = steps[-1]
    return steps[:-1] + [Step(last.answer, last.link, last.asked, True, last.wraps)]


class Joint:
    """A kind a and the kind b of the thing at one of its links, and the links of the kind in which they are joined."""

    def __init__(self, house, kind, link, other, names):
        self.kind_a = house[kind]
        self.kind_b = house[other]
        self.link = link
        self.new_names = names

    def expected_links(self):
        """Return a dict from each key (side, link) that the names must have to the choices of the link."""
        table = {(0, link): choices for link, choices in self.kind_a.links().items() if link != self.link}
        for link, choices in self.kind_b.links().items():
            table[(1, link)] = choices
        return table

    def has_valid_names(self):
        """Tell whether the names are such as are described for the links of the new kind."""
        names = self.new_names
        if not has_keys(names, self.expected_links()) or len(names) > MOST_JOINED:
            return False
        if any([is_flag(side) for side, link in names]) or not all([is_name(name) for name in names.values()]):
            return False
        return len(set(list(names.values()))) == len(names)

    def new_links(self):
        """Return the links of the new kind."""
        return {self.new_names[one]: choices for one, choices in self.expected_links().items()}

    def renamed(self, side, step):
        """Return a Step as the new kind takes it, which goes on to the next one if it fails."""
        if step.answer is not None:
            return step
        return Step(None, self.new_names[(side, step.link)], step.asked, False, step.wraps)

    def steps_behind(self, step):
        """Return the Steps of b that are taken where a sends to it."""
        return taken(plain_steps(self.kind_b, step.asked))

    def is_bare(self, step):
        """Tell whether a step of a by the link may hand out b."""
        if step.asked is None:
            return True
        return not step.wraps and any([answers_itself(below) for below in self.steps_behind(step)])

    def new_steps(self, column):
        """Return the Steps of the new kind at a column, of which the last one ends; or raise Bare."""
        steps = []
        for step in plain_steps(self.kind_a, column):
            behind = [step]
            side = 0
            if step.answer is None and step.link == self.link:
                if self.is_bare(step):
                    raise Bare(column)
                behind = self.steps_behind(step)
                side = 1
            # What b refuses is what fails above it, so a bar of b does not end the ask.
            steps.extend([self.renamed(side, below) for below in behind if side == 0 or below.answer != REFUSED])
            if step.is_last or any([is_told(below) for below in behind]):
                break
        return ended(steps)


def rule_of(step, names):
    """Return a Step of the new kind as a rule for these names."""
    if step.answer == SELF:
        return "self", names
    if step.answer == REFUSED:
        return "bar", names
    if step.answer is not None:
        return "tell", names, step.answer[1]
    manner = "last" if step.is_last else "try"
    if step.asked is None:
        return "give", names, step.link, manner
    return "send", names, step.link, step.asked, manner, step.wraps


def joined(house, kind, link, other, name, names):
    """Return a Kind that answers as a thing of the kind does whose link leads to a thing of the kind other."""
    check_link(house, kind, link)
    check_kind(house, other)
    if other not in house[kind].links()[link]:
        raise NoKind(other)
    if not is_name(name):
        raise BadKind("name")
    joint = Joint(house, kind, link, other, names)
    if not joint.has_valid_names():
        raise BadKind("links")
    steps = {column: joint.new_steps(column) for column in house.columns()}
    rules = []
    # The rules for all other names come last: those of a column that is named have ended before them.
    for column in house.names() + [""]:
        rules.extend([rule_of(step, [] if column == "" else [column]) for step in steps[column]])
    return Kind(name, joint.new_links(), {}, rules)
