"""Walks: names that are asked one after the other, each of the thing that was answered last."""

from onwardasks.asks import ask, at, check_index
from onwardasks.behind import first_unlike
from onwardasks.edges import reached
from onwardasks.errors import NoName
from onwardasks.escapes import first_leak
from onwardasks.facts import Facts, shown
from onwardasks.hops import Hops
from onwardasks.houses import check_kind, check_link
from onwardasks.panels import Panel
from onwardasks.steps import ENDLESS
from onwardasks.terms import is_list, is_name_or_empty

MOST_WALKED = 200


def check_walk(names):
    """Raise NoName if names is not a list of names for a walk."""
    if not is_list(names) or len(names) > MOST_WALKED:
        raise NoName(names)
    for name in names:
        if not is_name_or_empty(name):
            raise NoName(name)


def walked(graph, index, names):
    """Return the list of the answers of a walk; it ends behind the first answer that is no thing."""
    check_index(graph, index)
    check_walk(names)
    told = []
    here = index
    for name in names:
        answer = ask(graph, here, name)
        told.append(answer)
        if answer[0] == "thing":
            here = at(graph, here, answer[1])
        elif answer[0] != "self":
            break
    return told


def leak(house, kind):
    """Return None if no walk from things of the kind ends with a thing of a hidden kind.

    Otherwise return the columns of the first shortest such walk, and a Graph
    in which it goes from thing 0.
    """
    check_kind(house, kind)
    return first_leak(Facts(Panel(house)), kind)


def held(house, kind):
    """Return the ascending list of the kinds of all things with which walks from the kind end, and of the kind."""
    check_kind(house, kind)
    facts = Facts(Panel(house))
    hops = Hops(facts)
    onward = {row: hops.anywhere(row) for row in facts.rows}
    rows = reached(onward, [row for row in facts.rows if row[0] == kind])
    return sorted(set([row[0] for row in rows]))


def first_endless(facts, kind):
    """Return the first column at which a thing of the kind is endless, and a Graph of one; or None."""
    for position, (side, column) in enumerate(facts.panel.columns()):
        for row in facts.rows:
            if row[0] == kind and row[1][position] == ENDLESS:
                return column, shown(facts, [], row)
    return None


def verdict(house, kind, link):
    """Return the first of these, with its columns and a Graph: "endless", "unlike", "leak"; None if there is none."""
    check_link(house, kind, link)
    facts = Facts(Panel(house))
    found = first_endless(facts, kind)
    if found is not None:
        return ("endless",) + found
    found = first_unlike(facts, kind, link, house.columns(), False)
    if found is not None:
        return ("unlike",) + found
    found = first_leak(facts, kind)
    return None if found is None else ("leak",) + found
