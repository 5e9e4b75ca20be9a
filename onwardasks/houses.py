"""Houses: the kinds that belong together, and the columns of their names."""

from onwardasks.errors import BadHouse, NoKind, NoLink, NoName
from onwardasks.kinds import Kind, is_link
from onwardasks.terms import is_list, is_name_or_empty

MOST_KINDS = 4
MOST_NAMED = 6


def kinds_by_name(kinds):
    """Return a dict from the names of the Kinds, ascending, to the Kinds, or raise BadHouse."""
    if not is_list(kinds) or not 1 <= len(kinds) <= MOST_KINDS:
        raise BadHouse(-1)
    table = {}
    for index, kind in enumerate(kinds):
        if not isinstance(kind, Kind) or kind.name in table:
            raise BadHouse(index)
        table[kind.name] = kind
    return {name: table[name] for name in sorted(table)}


def leads_only_to(kind, names):
    """Tell whether each choice of the Kind is nowhere or stands in names."""
    for choices in kind.links().values():
        if not all([choice == "" or choice in names for choice in choices]):
            return False
    return True


def named_by(kind):
    """Return a list of the names that the Kind names; one may stand there several times."""
    names = list(kind.own())
    for rule in kind.rules():
        names.extend(rule[1])
        if rule[0] == "send" and rule[3] != "":
            names.append(rule[3])
    return names


class House:
    """Kinds that belong together. A House never changes."""

    def __init__(self, kinds):
        self.kind_table = kinds_by_name(kinds)
        for index, kind in enumerate(kinds):
            if not leads_only_to(kind, self.kind_table):
                raise BadHouse(index)
        named = []
        for kind in kinds:
            named.extend(named_by(kind))
        self.name_list = sorted(set(named))
        if len(self.name_list) > MOST_NAMED:
            raise BadHouse(-2)

    def names(self):
        """Return the ascending list of the names that the house names."""
        return list(self.name_list)

    def columns(self):
        """Return the list of "", which stands for all other names, and the names."""
        return [""] + self.name_list

    def column_of(self, name):
        """Return the column at which a name, or "", is answered."""
        if not is_name_or_empty(name):
            raise NoName(name)
        if name in self.name_list:
            return name
        return ""

    def kinds(self):
        """Return the ascending list of the names of the kinds."""
        return list(self.kind_table)

    def with_kind(self, kind):
        """Return a House with this Kind, in the place of the one of its name if there is one."""
        if not isinstance(kind, Kind):
            raise NoKind(kind)
        table = dict(self.kind_table)
        table[kind.name] = kind
        return House([table[name] for name in sorted(table)])

    def __getitem__(self, name):
        if not isinstance(name, str) or name not in self.kind_table:
            raise NoKind(name)
        return self.kind_table[name]

    def __iter__(self):
        raise TypeError("a House is not iterated over: use kinds()")

    def __eq__(self, other):
        return isinstance(other, House) and self.kind_table == other.kind_table


def check_kind(house, kind):
    """Raise NoKind if kind is not the name of a kind of the house."""
    if not isinstance(kind, str) or kind not in house.kinds():
        raise NoKind(kind)


def check_link(house, kind, link):
    """Raise NoKind as check_kind does, or NoLink if link is not a link of the kind."""
    if not is_link(link, house[kind].links()):
        raise NoLink(link)
