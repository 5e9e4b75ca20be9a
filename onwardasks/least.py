"""Which rules of a house are needed, and certificates that fewer do not serve."""

from onwardasks.asks import ask
from onwardasks.errors import NoRule, NotLeast, TooMany
from onwardasks.graphs import Graph
from onwardasks.houses import House
from onwardasks.kinds import Kind
from onwardasks.likeness import parted
from onwardasks.terms import is_index, is_list

MOST_COMPARED = 5


def rules_of(house):
    """Return the ascending list of the rules (kind, index) of a house."""
    return [(kind, index) for kind in house.kinds() for index in range(len(house[kind].rules()))]


def kept_rule(house, rule):
    """Return a rule (kind, index) of the house as a tuple, or None if it is none."""
    if not is_list(rule) or len(rule) != 2:
        return None
    kind, index = rule
    if not isinstance(kind, str) or kind not in house.kinds() or not is_index(index, len(house[kind].rules())):
        return None
    return kind, index


def kept_lot(house, lot):
    """Return a lot as an ascending tuple of tuples, or raise NoRule."""
    if not is_list(lot):
        raise NoRule(-1)
    found = {}
    for index, rule in enumerate(lot):
        one = kept_rule(house, rule)
        if one is None or one in found:
            raise NoRule(index)
        found[one] = True
    return tuple(sorted(found))


def reduced(kind, lot):
    """Return the Kind with only those of its rules that are in the lot."""
    rules = [rule for index, rule in enumerate(kind.rules()) if (kind.name, index) in lot]
    return Kind(kind.name, kind.links(), kind.own(), rules, hidden=kind.hidden)


def kept(house, lot):
    """Return the house in which each kind has only those of its rules that are in the lot."""
    rules = {rule: True for rule in kept_lot(house, lot)}
    return House([reduced(house[kind], rules) for kind in house.kinds()])


def compared_rules(house):
    """Return the ascending list of the rules of a house, or raise TooMany if they are too many to compare lots."""
    rules = rules_of(house)
    if len(rules) > MOST_COMPARED:
        raise TooMany(MOST_COMPARED)
    return rules


def lots_of(rules):
    """Return all lots of ascending rules, by their number of rules and then ascending."""
    lots = [()]
    for rule in rules:
        lots = lots + [lot + (rule,) for lot in lots]
    return sorted(lots, key=lambda lot: (len(lot), lot))


def difference(house, lot):
    """Return what parted tells of the house and of the one with this ascending lot; None if it has all rules."""
    return None if len(lot) == len(rules_of(house)) else parted(house, kept(house, lot))


def least_rules(house):
    """Return the ascending list of the lots that serve and have the fewest rules."""
    found = []
    for lot in lots_of(compared_rules(house)):
        if len(found) > 0 and len(lot) > len(found[0]):
            break
        if difference(house, lot) is None:
            found.append(lot)
    return found


def spare(house):
    """Return the ascending list of the rules without which all others serve."""
    rules = compared_rules(house)
    return [rule for rule in rules if difference(house, tuple([other for other in rules if other != rule])) is None]


def lesser_lots(house, lot):
    """Return the list of the lots that have fewer rules than a lot, in the order of certificates."""
    return [lesser for lesser in lots_of(rules_of(house)) if len(lesser) < len(lot)]


def paper(house, lot):
    """Return a certificate that no lot with fewer rules than this one serves."""
    compared_rules(house)
    whole = kept_lot(house, lot)
    if difference(house, whole) is not None:
        raise NotLeast(whole)
    told = []
    for lesser in lesser_lots(house, whole):
        found = difference(house, lesser)
        if found is None:
            raise NotLeast(lesser)
        told.append((lesser,) + found)
    return told


def shows(house, lesser, kind, column, graph):
    """Tell whether thing 0 of a Graph shows that the house with the lesser lot answers differently."""
    if not isinstance(graph, Graph) or not graph.house == house or graph.kind_of(0) != kind:
        return False
    if not isinstance(column, str) or column not in house.columns():
        return False
    return ask(graph, 0, column) != ask(graph.over(kept(house, lesser)), 0, column)


def is_right(house, lesser, element):
    """Tell whether an element of a certificate is right for the lesser lot, an ascending tuple."""
    if not is_list(element) or len(element) != 4:
        return False
    lot, kind, column, graph = element
    if not is_list(lot) or tuple([kept_rule(house, rule) for rule in lot]) != lesser:
        return False
    return shows(house, lesser, kind, column, graph)


def paper_fault(house, lot, paper):
    """Return the first index at which a certificate is wrong, lacks an element or has one too many; or None."""
    compared_rules(house)
    lots = lesser_lots(house, kept_lot(house, lot))
    given = list(paper) if is_list(paper) else []
    for index, lesser in enumerate(lots):
        if index >= len(given) or not is_right(house, lesser, given[index]):
            return index
    return len(lots) if len(given) > len(lots) else None
