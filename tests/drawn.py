"""Houses, graphs and rows that are drawn by chance, always the same ones for the same seed."""

import random

from onwardasks.graphs import Graph
from onwardasks.houses import House
from onwardasks.kinds import Kind


def source(seed):
    return random.Random(seed)


def draw_links(chance, kinds, most_links):
    """Return the links of a kind in a house of these kinds."""
    links = {}
    for link in ["a", "b"][:chance.randint(0, most_links)]:
        choices = [*kinds, ""]
        links[link] = chance.sample(choices, chance.randint(1, min(4, len(choices))))
    return links


def draw_own(chance, links, names):
    answers = [("value", "v"), ("value", "w"), ("self",)] + [("link", link) for link in links]
    return {name: chance.choice(answers) for name in names if chance.random() < 0.15}


def draw_rule(chance, links, names):
    told = chance.sample(names, chance.randint(0, min(2, len(names))))
    form = chance.choice(["bar", "tell", "self", "give"] + ["send"] * 5)
    if not links and form in ("give", "send"):
        form = "tell"
    if form in ("bar", "self"):
        return (form, told)
    if form == "tell":
        return (form, told, chance.choice("vw"))
    link, manner = chance.choice(sorted(links)), chance.choice(["try", "last"])
    if form == "give":
        return (form, told, link, manner)
    return (form, told, link, chance.choice(["", ""] + names), manner, chance.random() < 0.5)


def draw_kind(chance, name, links, names, most_rules):
    rules = [draw_rule(chance, links, names) for _ in range(chance.randint(0, most_rules))]
    return Kind(name, links, draw_own(chance, links, names), rules)


def draw_house(chance, *, kinds="kl", most_links=2, names="pq", most_rules=4):
    """Return a House of these kinds that names some of these names."""
    return House([draw_kind(chance, kind, draw_links(chance, kinds, most_links), list(names), most_rules)
                  for kind in kinds])


def draw_other_house(chance, house, *, names="pq", most_rules=4):
    """Return a House with the same kinds, links and choices and other answers."""
    return House([draw_kind(chance, kind, house[kind].links(), list(names), most_rules) for kind in house.kinds()])


def draw_things(chance, house, many):
    """Return many things over the house, or None if there are none of the kinds drawn."""
    kinds = [chance.choice(house.kinds()) for _ in range(many)]
    things = []
    for kind in kinds:
        links = {}
        for link, choices in house[kind].links().items():
            ends = [k for k in range(many) if kinds[k] in choices] + [None] * ("" in choices)
            if not ends:
                return None
            links[link] = chance.choice(ends)
        things.append((kind, links))
    return things


def draw_graph(chance, house, many):
    """Return a Graph of many things over the house, or None if the kinds drawn allow none."""
    things = draw_things(chance, house, many)
    return None if things is None else Graph(house, things)


def draw_graphs(chance, house, tries, most=6):
    """Return some Graphs over the house."""
    graphs = [draw_graph(chance, house, chance.randint(1, most)) for _ in range(tries)]
    return [graph for graph in graphs if graph is not None]
