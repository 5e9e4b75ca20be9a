"""Things and the things behind their links: whether they answer alike."""

from onwardasks.closures import items_of
from onwardasks.errors import NoName
from onwardasks.facts import Facts, real_sights, shown
from onwardasks.houses import check_link
from onwardasks.linkends import ends_asked, ways
from onwardasks.panels import Panel
from onwardasks.rows import entry_of
from onwardasks.steps import SELF
from onwardasks.terms import is_list, is_name

MOST_ASKED = 6


def asked_columns(house, names):
    """Return the list of the columns of names in the order of columns(), or raise NoName."""
    if names is None:
        return house.columns()
    if not is_list(names) or len(names) > MOST_ASKED:
        raise NoName(names)
    for name in names:
        if not is_name(name):
            raise NoName(name)
    asked = [house.column_of(name) for name in names]
    return [column for column in house.columns() if column in asked]


def follows(steps, way, link, position, bare):
    """Tell whether a thing with these placed steps at a position follows the thing behind its link.

    way is a tuple with a Sight, or None for nowhere, for each link.
    """
    behind = way[link]
    wanted = behind.entries[position]
    entry, path = entry_of(steps, way)
    if wanted[0] == "thing":
        return path == (link, behind.leads[position])
    if wanted == SELF and bare:
        return path == (link, None)
    return entry == wanted


def ways_with(facts, kind, link):
    """Return all ways in which real rows stand at the links of a kind, but nowhere at this one.

    A row at this link is told apart from others at all positions, since all
    of its answers are looked at.
    """
    panel = facts.panel
    asked = panel.asked_at(kind)
    asked[link] = list(range(len(panel.columns())))
    return [way for way in ways(ends_asked(panel, kind, asked, real_sights(facts)), True) if way[link] is not None]


def first_unlike(facts, kind, link, columns, bare):
    """Return the first of the columns at which a thing does not follow, and a Graph that shows it; or None."""
    place = list(facts.panel.links(kind)).index(link)
    all_steps = facts.panel.steps_of(kind)
    rows_below = ways_with(facts, kind, place)
    for column in columns:
        position = facts.panel.columns().index((0, column))
        for way in rows_below:
            if not follows(all_steps[position], way, place, position, bare):
                return column, shown(facts, [(kind, items_of(way), place)], way[place].item)
    return None


def unlike(house, kind, link, names=None, *, bare=False):
    """Return None if each thing of the kind follows the thing behind its link, at each of the names.

    Otherwise return the first column at which one does not, and a Graph whose
    thing 0 does not. If bare is True, it is asked to hand out the thing there
    where that answers ("self",).
    """
    check_link(house, kind, link)
    columns = asked_columns(house, names)
    return first_unlike(Facts(Panel(house)), kind, link, columns, bare)
