"""Texts of houses and graphs, and back."""

from onwardasks.errors import BadGraph, BadHouse, BadKind, NoText
from onwardasks.graphs import Graph
from onwardasks.houses import House
from onwardasks.kinds import Kind, is_manner
from onwardasks.terms import is_name

DIGITS = "0123456789"
MOST_DIGITS = 4
# How many words stand in a line of a rule in front of its names.
WORDS_IN_FRONT = {"bar": 1, "tell": 2, "self": 1, "give": 3, "send": 5}
WRAPS = {"wrap": True, "bare": False}


def words_of_rule(rule):
    """Return the words of the line of a rule."""
    names = ["*"] if len(rule[1]) == 0 else list(rule[1])
    if rule[0] != "send":
        return [rule[0]] + list(rule[2:]) + names
    link, under, manner, wraps = rule[2:]
    return ["send", link, "=" if under == "" else under, manner, "wrap" if wraps else "bare"] + names


def kind_lines(kind):
    """Return the list of the lines of a Kind."""
    lines = [["kind", kind.name] + (["hidden"] if kind.hidden else [])]
    for link, choices in kind.links().items():
        lines.append(["link", link] + ["-" if choice == "" else choice for choice in choices])
    for name, answer in kind.own().items():
        lines.append(["own", name] + list(answer))
    for rule in kind.rules():
        lines.append(words_of_rule(rule))
    return [" ".join(words) for words in lines]


def house_text(house):
    """Return the text of a House."""
    lines = []
    for name in house.kinds():
        lines.extend(kind_lines(house[name]))
    return "\n".join(lines)


def read_kind(words):
    """Return the part ("kind", name, hidden) for the words of a line, or None if they have not its form."""
    if 2 <= len(words) <= 3 and is_name(words[1]) and words[2:] in ([], ["hidden"]):
        return "kind", words[1], len(words) == 3
    return None


def read_link(words):
    """Return the part ("link", link, choices) for the words of a line, or None if they have not its form."""
    ends = words[2:]
    if len(ends) == 0 or not is_name(words[1]) or not all([end == "-" or is_name(end) for end in ends]):
        return None
    return "link", words[1], ["" if end == "-" else end for end in ends]


def read_own(words):
    """Return the part ("own", name, answer) for the words of a line, or None if they have not its form."""
    if len(words) < 3 or not is_name(words[1]):
        return None
    if words[2:] == ["self"] or len(words) == 4 and words[2] in ("value", "link") and is_name(words[3]):
        return "own", words[1], tuple(words[2:])
    return None


def read_names(words):
    """Return the names of a rule for the words at the end of its line, or None if they are none."""
    if words == ["*"]:
        return []
    return words if len(words) > 0 and all([is_name(word) for word in words]) else None


def read_rule(words):
    """Return the part ("rule", "", rule) for the words of a line, or None if they have not its form."""
    form = words[0]
    names = read_names(words[WORDS_IN_FRONT[form]:])
    if names is None:
        return None
    rest = words[1:WORDS_IN_FRONT[form]]
    if len(rest) > 0 and not is_name(rest[0]):
        return None
    if form == "give" and not is_manner(rest[1]):
        return None
    if form == "send":
        under, manner, wraps = rest[1:]
        if not (under == "=" or is_name(under)) or not is_manner(manner) or wraps not in WRAPS:
            return None
        rest = [rest[0], "" if under == "=" else under, manner, WRAPS[wraps]]
    return "rule", "", (form, names) + tuple(rest)


def read_line(line):
    """Return the part of a kind for a line, a tuple of three, or None if the line has no form."""
    words = line.split(" ")
    if words[0] == "kind":
        return read_kind(words)
    if words[0] == "link":
        return read_link(words)
    if words[0] == "own":
        return read_own(words)
    return read_rule(words) if words[0] in WORDS_IN_FRONT else None


def kinds_of(parts):
    """Return the list of the Kinds that have these parts, each behind its own first one; it may raise BadKind."""
    groups = []
    for part in parts:
        if part[0] == "kind":
            groups.append([])
        if len(groups) > 0:
            groups[-1].append(part)
    kinds = []
    for group in groups:
        first = group[0]
        links = {name: what for sort, name, what in group if sort == "link"}
        own = {name: what for sort, name, what in group if sort == "own"}
        rules = [what for sort, name, what in group if sort == "rule"]
        kinds.append(Kind(first[1], links, own, rules, hidden=first[2]))
    return kinds


def lines_of(text):
    """Return the list of the lines of a text, or raise NoText if it is no string."""
    if not isinstance(text, str):
        raise NoText(0)
    return text.split("\n")


def check_forms(parts):
    """Raise NoText for the first line that has no form; parts has None for it."""
    for index, part in enumerate(parts):
        if part is None:
            raise NoText(index + 1)


def read_house(text):
    """Return the House of a text."""
    parts = [read_line(line) for line in lines_of(text)]
    check_forms(parts)
    try:
        house = House(kinds_of(parts))
    except (BadKind, BadHouse):
        raise NoText(len(parts) + 1) from None
    # Whatever is out of its order or stands twice makes another text.
    if house_text(house) != text:
        raise NoText(len(parts) + 1)
    return house


def graph_text(graph):
    """Return the text of a Graph."""
    lines = []
    for index in range(len(graph)):
        kind, links = graph[index]
        words = [kind]
        for link in sorted(links):
            words.extend([link, "-" if links[link] is None else str(links[link])])
        lines.append(" ".join(words))
    return "\n".join(lines)


def is_end(word):
    """Tell whether a word tells where a link leads."""
    if word == "-":
        return True
    if not 1 <= len(word) <= MOST_DIGITS or not all([letter in DIGITS for letter in word]):
        return False
    return word == "0" or word[0] != "0"


def read_thing(line):
    """Return the pair (kind, links) for a line, or None if the line has not its form."""
    words = line.split(" ")
    names = words[:1] + words[1::2]
    ends = words[2::2]
    if len(words) - len(ends) != len(ends) + 1:
        return None
    if not all([is_name(name) for name in names]) or not all([is_end(end) for end in ends]):
        return None
    return words[0], {link: None if end == "-" else int(end) for link, end in zip(words[1::2], ends)}


def read_graph(house, text):
    """Return the Graph over a House of a text."""
    things = [read_thing(line) for line in lines_of(text)]
    check_forms(things)
    try:
        graph = Graph(house, things)
    except BadGraph:
        raise NoText(len(things) + 1) from None
    if graph_text(graph) != text:
        raise NoText(len(things) + 1)
    return graph
