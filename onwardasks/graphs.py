"""Graphs: things of the kinds of a house, and where their links lead."""

from onwardasks.errors import BadGraph, NoThing, Unlike
from onwardasks.terms import has_keys, is_index, is_list


def check_alike(one, other):
    """Raise Unlike if two Houses differ in their kinds, the links of these or their choices."""
    for kind in sorted(set(one.kinds()) | set(other.kinds())):
        if kind not in one.kinds() or kind not in other.kinds() or one[kind].links() != other[kind].links():
            raise Unlike(kind)


def is_thing(thing, link_table):
    """Tell whether thing is a pair of a kind and a dict of its links, their values aside."""
    if not is_list(thing) or len(thing) != 2:
        return False
    kind, links = thing
    return isinstance(kind, str) and kind in link_table and has_keys(links, link_table[kind])


def may_lead(choices, other, kinds):
    """Tell whether a link with these choices may lead to other, an index or None; kinds are those of the things."""
    if other is None:
        return "" in choices
    return is_index(other, len(kinds)) and kinds[other] in choices


def copied_things(house, things):
    """Return the things as a graph keeps them, or raise BadGraph."""
    if not is_list(things) or len(things) == 0:
        raise BadGraph(-1)
    link_table = {kind: house[kind].links() for kind in house.kinds()}
    for index, thing in enumerate(things):
        if not is_thing(thing, link_table):
            raise BadGraph(index)
    kinds = [thing[0] for thing in things]
    for index, (kind, links) in enumerate(things):
        for link, choices in link_table[kind].items():
            if not may_lead(choices, links[link], kinds):
                raise BadGraph(index)
    return [(kind, {link: links[link] for link in link_table[kind]}) for kind, links in things]


class Graph:
    """Things and where their links lead. A Graph never changes."""

    def __init__(self, house, things):
        self.house_below = house
        self.thing_list = copied_things(house, things)

    @property
    def house(self):
        """The House of the graph."""
        return self.house_below

    def over(self, house):
        """Return the Graph of the same things over a House with the same kinds, links and choices."""
        check_alike(self.house_below, house)
        return Graph(house, self.thing_list)

    def kind_of(self, index):
        """Return the name of the kind of the thing at an index, which exists."""
        return self.thing_list[index][0]

    def other_end(self, index, link):
        """Return the index to which a link of a thing leads, or None; both exist."""
        return self.thing_list[index][1][link]

    def __len__(self):
        return len(self.thing_list)

    def __getitem__(self, index):
        if not is_index(index, len(self.thing_list)):
            raise NoThing(index)
        kind, links = self.thing_list[index]
        return kind, dict(links)

    def __iter__(self):
        raise TypeError("a Graph is not iterated over: use len and an index")

    def __eq__(self, other):
        return (isinstance(other, Graph) and self.house_below == other.house_below
                and self.thing_list == other.thing_list)
