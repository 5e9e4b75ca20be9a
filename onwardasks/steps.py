"""The steps of kinds in one form, so that own answers and rules are gone through alike."""

from onwardasks.kinds import steps_at

REFUSED = ("refused",)
SELF = ("self",)
ENDLESS = ("endless",)


class Step:
    """One step of a kind. A Step never changes.

    A step with an answer ends the ask with it; its other parts have no
    meaning. A step without one (answer is None) looks at a link. It asks the
    thing there at the column asked, or hands it out if asked is None. If the
    step fails, the next one is tried, unless is_last.
    """

    def __init__(self, answer, link, asked, is_last, wraps):
        self.answer = answer
        self.link = link
        self.asked = asked
        self.is_last = is_last
        self.wraps = wraps


def ending(answer):
    """Return the Step that ends an ask with this answer."""
    return Step(answer, "", None, True, False)


def handing(link, is_last):
    """Return the Step that hands out the thing at a link."""
    return Step(None, link, None, is_last, False)


def one_form(step, column):
    """Return a Step for an own answer or a rule at a column."""
    form = step[0]
    if form == "value":
        return ending(("value", step[1]))
    if form == "tell":
        return ending(("value", step[2]))
    if form == "self":
        return ending(SELF)
    if form == "bar":
        return ending(REFUSED)
    if form == "link":
        return handing(step[1], True)
    if form == "give":
        return handing(step[2], step[3] == "last")
    link, under, manner, wraps = step[2:]
    asked = column if under == "" else under
    return Step(None, link, asked, manner == "last", wraps)


def plain_steps(kind, column):
    """Return the list of the Steps of a Kind at a column, in their order."""
    return [one_form(step, column) for step in steps_at(kind, column)]


def without_repeats(steps):
    """Return Steps that answer the same as these, without those that are never used.

    What has failed once fails again: a step that looks at the same link in
    the same way once more does nothing, or only ends the ask if it is a last
    one. So there are few steps, however many rules a kind has.
    """
    short = []
    looks = {}
    for step in steps:
        look = (step.link, step.asked)
        if step.answer is not None or look not in looks:
            looks[look] = True
            short.append(step)
        elif step.is_last:
            short.append(ending(REFUSED))
        if step.is_last:
            break
    return short
