"""Single asks in a graph: their answers, and what is asked and looked at on the way."""

from onwardasks.errors import NoPath, NoThing
from onwardasks.terms import is_index, is_list
from onwardasks.works import Known, Work


def check_index(graph, index):
    """Raise NoThing if index is not the index of a thing."""
    if not is_index(index, len(graph)):
        raise NoThing(index)


def worked(graph, index, name):
    """Return the Work of an ask, or raise NoThing or NoName."""
    check_index(graph, index)
    return Work(Known(graph, {}, {}), index, graph.house.column_of(name))


def ask(graph, index, name):
    """Return the answer of a thing to a name."""
    return worked(graph, index, name).first_answer()


def depth(graph, index, name):
    """Return the greatest number of asks that are worked out at one moment; None if endless."""
    work = worked(graph, index, name)
    if work.is_endless:
        return None
    depths = {}
    # Asks below end first, so their depths are there when they are needed.
    for done, asked in work.ended.items():
        depths[done] = 1 + max([depths[below] for below in asked.sent], default=0)
    return depths[work.first]


def sends(graph, index, name):
    """Return how often something is asked by a send, repeated asks included; None if endless."""
    work = worked(graph, index, name)
    if work.is_endless:
        return None
    totals = {}
    for done, asked in work.ended.items():
        totals[done] = sum([times * (1 + totals[below]) for below, times in asked.sent.items()])
    return totals[work.first]


def trail(graph, index, name):
    """Return the list of all (index, column) that are asked, in the order of the first time."""
    return list(worked(graph, index, name).asked_table)


def looked(graph, index, name):
    """Return the ascending list of all (index, link) that are looked at."""
    asked_table = worked(graph, index, name).asked_table
    return sorted(set([(place, link) for (place, column), asked in asked_table.items() for link in asked.links_seen]))


def at(graph, index, path):
    """Return the index of the thing at the end of a path."""
    check_index(graph, index)
    if not is_list(path):
        raise NoPath(-1)
    reached = index
    for place, link in enumerate(path):
        links = graph[reached][1]
        if not isinstance(link, str) or links.get(link) is None:
            raise NoPath(place)
        reached = links[link]
    return reached
