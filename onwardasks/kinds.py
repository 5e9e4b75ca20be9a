"""Kinds: how things of one sort answer, and their steps at a column."""

from onwardasks.errors import BadKind, NoName
from onwardasks.terms import is_flag, is_list, is_name, is_name_or_empty

MOST_LINKS = 2
MOST_CHOICES = 4
MOST_OWN = 5
MOST_RULES = 300
MOST_NAMES = 4


def is_choice_list(choices):
    """Tell whether choices can be the choices of a link."""
    if not is_list(choices) or not 1 <= len(choices) <= MOST_CHOICES:
        return False
    return all([is_name_or_empty(choice) for choice in choices]) and len(set(choices)) == len(choices)


def is_name_list(names):
    """Tell whether names can be the names of a rule."""
    if not is_list(names) or len(names) > MOST_NAMES:
        return False
    return all([is_name(name) for name in names]) and len(set(names)) == len(names)


def is_link(link, links):
    """Tell whether link is a key of the dict links."""
    return isinstance(link, str) and link in links


def is_manner(manner):
    """Tell whether manner says what follows a step that fails."""
    return isinstance(manner, str) and manner in ("try", "last")


def is_own_answer(answer, links):
    """Tell whether answer is an own answer of a kind with these links."""
    if not is_list(answer) or len(answer) == 0 or not isinstance(answer[0], str):
        return False
    form = answer[0]
    if form == "self":
        return len(answer) == 1
    if len(answer) != 2:
        return False
    if form == "value":
        return is_name(answer[1])
    return form == "link" and is_link(answer[1], links)


def is_send(rest, links):
    """Tell whether rest can stand behind the names of a send."""
    if len(rest) != 4:
        return False
    link, under, manner, wraps = rest
    return is_link(link, links) and is_name_or_empty(under) and is_manner(manner) and is_flag(wraps)


def is_rule(rule, links):
    """Tell whether rule is a rule of a kind with these links."""
    if not is_list(rule) or len(rule) < 2 or not isinstance(rule[0], str) or not is_name_list(rule[1]):
        return False
    form = rule[0]
    rest = rule[2:]
    if form == "bar" or form == "self":
        return len(rest) == 0
    if form == "tell":
        return len(rest) == 1 and is_name(rest[0])
    if form == "give":
        return len(rest) == 2 and is_link(rest[0], links) and is_manner(rest[1])
    return form == "send" and is_send(rest, links)


def copied_links(links):
    """Return the links as a kind keeps them, or raise BadKind."""
    if not isinstance(links, dict) or len(links) > MOST_LINKS:
        raise BadKind("links")
    for link, choices in links.items():
        if not is_name(link) or not is_choice_list(choices):
            raise BadKind("links")
    return {link: tuple(sorted(links[link])) for link in sorted(links)}


def copied_own(own, links):
    """Return the own answers as a kind with these links keeps them, or raise BadKind."""
    if not isinstance(own, dict) or len(own) > MOST_OWN:
        raise BadKind("own")
    for name, answer in own.items():
        if not is_name(name) or not is_own_answer(answer, links):
            raise BadKind("own")
    return {name: tuple(own[name]) for name in sorted(own)}


def copied_rules(rules, links):
    """Return the rules as a kind with these links keeps them, or raise BadKind."""
    if not is_list(rules) or len(rules) > MOST_RULES:
        raise BadKind("rules")
    if not all([is_rule(rule, links) for rule in rules]):
        raise BadKind("rules")
    return [(rule[0], tuple(sorted(rule[1]))) + tuple(rule[2:]) for rule in rules]


class Kind:
    """How things of one sort answer. A Kind never changes."""

    def __init__(self, name, links, own, rules, *, hidden=False):
        if not is_name(name):
            raise BadKind("name")
        self.kind_name = name
        self.link_table = copied_links(links)
        self.own_table = copied_own(own, self.link_table)
        self.rule_list = copied_rules(rules, self.link_table)
        if not is_flag(hidden):
            raise BadKind("hidden")
        self.is_hidden = hidden

    @property
    def name(self):
        """The name of the kind."""
        return self.kind_name

    @property
    def hidden(self):
        """True if things of this kind should not get out, else False."""
        return self.is_hidden

    def links(self):
        """Return a dict from each link to the ascending tuple of its choices."""
        return dict(self.link_table)

    def own(self):
        """Return a dict from each own name to its answer, a tuple."""
        return dict(self.own_table)

    def rules(self):
        """Return the rules, in their order, as a list of tuples."""
        return list(self.rule_list)

    def __getitem__(self, name):
        if not isinstance(name, str) or name not in self.own_table:
            raise NoName(name)
        return self.own_table[name]

    def __contains__(self, name):
        return isinstance(name, str) and name in self.own_table

    def __iter__(self):
        raise TypeError("a Kind is not iterated over: use own()")

    def __eq__(self, other):
        return (isinstance(other, Kind) and self.kind_name == other.kind_name
                and self.link_table == other.link_table and self.own_table == other.own_table
                and self.rule_list == other.rule_list and self.is_hidden == other.is_hidden)


def is_for(rule, column):
    """Tell whether the rule is for the column; no names stand for all columns."""
    return len(rule[1]) == 0 or column in rule[1]


def steps_at(kind, column):
    """Return the list of the steps that decide the answer of a Kind at a column.

    It is one own answer, or the rules for the column in their order. A name
    that the house does not name stands at the column "", which no rule with
    names has among them.
    """
    if column in kind:
        return [kind[column]]
    return [rule for rule in kind.rules() if is_for(rule, column)]
