"""Points 3, 5, 6, 7 and 10: Kind and the steps at a column."""

import unittest

from onwardasks.errors import AskError, BadKind, NoName
from onwardasks.kinds import Kind, steps_at
from tests.samples import (
    DICTS, LISTS, NO_DICTS, NO_FLAGS, NO_LISTS, NO_NAMES, NO_NAMES_OR_EMPTY, ODD, nested, nested_dict, plain_kind)

LINKS = {"to": ["room", ""], "via": ["hall"]}
BAD_LINKS = NO_NAMES + ["room", "own", "value"]
EACH_RULE = [
    ("bar", ["key"]),
    ("tell", ["key", "lamp"], "on"),
    ("self", []),
    ("give", ["me"], "to", "try"),
    ("send", ["key"], "via", "lamp", "last", True),
]


def kind_of(name="door", links=None, own=None, rules=None, hidden=False):
    """Return a Kind whose other parts are valid."""
    return Kind(name, LINKS if links is None else links, {} if own is None else own,
                [] if rules is None else rules, hidden=hidden)


def all_lists(x):
    """Return x with a list in the place of each tuple."""
    return [all_lists(item) for item in x] if isinstance(x, (list, tuple)) else x


def all_tuples(x):
    """Return x with a tuple in the place of each list."""
    return tuple(all_tuples(item) for item in x) if isinstance(x, (list, tuple)) else x


class KindTest(unittest.TestCase):
    def assert_bad(self, part, *arguments, **more):
        with self.assertRaises(BadKind) as caught:
            Kind(*arguments, **more)
        self.assertEqual(caught.exception.what, part)

    def assert_bad_links(self, links):
        self.assert_bad("links", "door", links, {}, [])

    def assert_bad_own(self, answer):
        self.assert_bad("own", "door", LINKS, {"key": answer}, [])

    def assert_bad_rule(self, *rule):
        for form in (tuple(rule), list(rule)):
            self.assert_bad("rules", "door", LINKS, {}, [form])
            self.assert_bad("rules", "door", LINKS, {}, EACH_RULE + [form])
            self.assert_bad("rules", "door", LINKS, {}, (form, ("self", [])))


class TestName(KindTest):
    def test_names(self):
        for name in ("a", "z", "room", "abcdefgh", "self", "try"):
            self.assertEqual(kind_of(name).name, name)

    def test_what_is_no_name(self):
        for name in NO_NAMES:
            self.assert_bad("name", name, {}, {}, [])


class TestLinks(KindTest):
    def test_no_links(self):
        self.assertEqual(kind_of(links={}).links(), {})

    def test_one_link_with_one_choice(self):
        self.assertEqual(kind_of(links={"to": ["room"]}).links(), {"to": ("room",)})
        self.assertEqual(kind_of(links={"to": [""]}).links(), {"to": ("",)})

    def test_two_links_with_up_to_four_choices_ascending(self):
        links = {"zz": ["d", "", "b", "a"], "abcdefgh": ("room", "hall")}
        self.assertEqual(kind_of(links=links).links(), {"abcdefgh": ("hall", "room"), "zz": ("", "a", "b", "d")})

    def test_one_name_may_serve_in_several_roles(self):
        kind = Kind("a", {"a": ["a"]}, {"a": ("link", "a")}, [("tell", ["a"], "a"), ("give", ["a"], "a", "try")])
        self.assertEqual(kind.links(), {"a": ("a",)})

    def test_no_dict(self):
        for links in NO_DICTS:
            self.assert_bad_links(links)

    def test_three_links(self):
        self.assert_bad_links({"a": ["x"], "b": ["x"], "c": ["x"]})

    def test_keys_that_are_no_names(self):
        for key in ("", "abcdefghi", "To", "t2", None, 0, 1, True, False, b"to", ("to",), (), frozenset()):
            self.assert_bad_links({key: ["room"]})
            self.assert_bad_links({"to": ["room"], key: ["room"]})
            self.assert_bad_links({key: ["room"], "to": ["room"]})

    def test_choices_that_are_no_list(self):
        for choices in NO_LISTS:
            self.assert_bad_links({"to": choices})
            self.assert_bad_links({"via": ["room"], "to": choices})

    def test_no_choice_and_five_choices(self):
        for choices in ([], (), ["a", "b", "c", "d", "e"], ["", "b", "c", "d", "e"]):
            self.assert_bad_links({"to": choices})

    def test_doubled_choices(self):
        for choices in (["a", "a"], ["", ""], ["a", "b", "a"], ("a", "b", "c", "b")):
            self.assert_bad_links({"to": choices})

    def test_choices_that_are_no_names(self):
        for choice in NO_NAMES_OR_EMPTY:
            self.assert_bad_links({"to": [choice]})
            self.assert_bad_links({"to": ["room", choice]})
            self.assert_bad_links({"to": (choice, "room", "")})


class TestOwn(KindTest):
    def test_no_own_names_and_each_form(self):
        self.assertEqual(kind_of().own(), {})
        own = {"key": ("value", "abcdefgh"), "me": ("self",), "it": ("link", "via")}
        self.assertEqual(kind_of(own=own).own(), own)

    def test_five_own_names(self):
        own = {name: ("value", "v") for name in ("e", "a", "abcdefgh", "c", "b")}
        self.assertEqual(kind_of(own=own).own(), own)

    def test_six_own_names(self):
        self.assert_bad("own", "door", LINKS, {name: ("self",) for name in "abcdef"}, [])

    def test_no_dict(self):
        for own in NO_DICTS:
            self.assert_bad("own", "door", LINKS, own, [])

    def test_keys_that_are_no_names(self):
        for key in ("", "abcdefghi", "Key", "k2", None, 0, 1, True, b"key", ("key",)):
            self.assert_bad("own", "door", LINKS, {key: ("self",)}, [])
            self.assert_bad("own", "door", LINKS, {"key": ("self",), key: ("self",)}, [])

    def test_answers_that_have_no_form(self):
        for answer in NO_LISTS + [[], (), ["own"], ("refused",), ("thing", "to"), ("Value", "v"), ("", "v")]:
            self.assert_bad_own(answer)
        for first in ODD + LISTS + DICTS + [True, False, "", "x", "Self", "selfs", "tell", "links", "lin"]:
            for answer in ([first], (first, "to"), [first, "to", "to"]):
                self.assert_bad_own(answer)

    def test_wrong_number_of_items(self):
        for answer in (("value",), ("value", "v", "v"), ("self", "self"), ("self", "to"), ("self", None),
                       ("link",), ("link", "to", "to"), ["value", "v", True], ["self", []]):
            self.assert_bad_own(answer)

    def test_values_that_are_no_names(self):
        for value in NO_NAMES:
            self.assert_bad_own(("value", value))
            self.assert_bad_own(["value", value])

    def test_links_that_do_not_exist(self):
        for link in BAD_LINKS:
            self.assert_bad_own(("link", link))
        self.assert_bad("own", "door", {}, {"key": ("link", "to")}, [])

    def test_one_invalid_answer_among_valid_ones(self):
        self.assert_bad("own", "door", LINKS, {"a": ("self",), "b": ("self", 1), "c": ("self",)}, [])


class TestRules(KindTest):
    def test_no_rules(self):
        self.assertEqual(kind_of(rules=[]).rules(), [])
        self.assertEqual(kind_of(rules=()).rules(), [])

    def test_each_form(self):
        self.assertEqual(kind_of(rules=EACH_RULE).rules(), all_rules_kept(EACH_RULE))

    def test_each_form_for_no_names_and_for_four(self):
        for names in ([], ["a", "b", "c", "d"], ["abcdefgh"]):
            for rule in EACH_RULE:
                changed = (rule[0], tuple(names), *rule[2:])
                self.assertEqual(kind_of(rules=[changed]).rules(), [changed])

    def test_each_link_manner_under_and_wraps(self):
        for link in ("to", "via"):
            for manner in ("try", "last"):
                give = ("give", (), link, manner)
                self.assertEqual(kind_of(rules=[give]).rules(), [give])
                for under in ("", "a", "abcdefgh"):
                    for wraps in (True, False):
                        send = ("send", (), link, under, manner, wraps)
                        self.assertEqual(kind_of(rules=[send]).rules(), [send])
                        self.assertIs(kind_of(rules=[send]).rules()[0][5], wraps)

    def test_three_hundred_rules_and_one_more(self):
        rules = [EACH_RULE[k * k % 5] for k in range(300)]
        self.assertEqual(kind_of(rules=rules).rules(), all_rules_kept(rules))
        self.assert_bad("rules", "door", LINKS, {}, rules + [("bar", [])])
        self.assert_bad("rules", "door", LINKS, {}, rules[:299] + [("bar",)])

    def test_no_list(self):
        for rules in NO_LISTS:
            self.assert_bad("rules", "door", LINKS, {}, rules)

    def test_rules_that_are_no_lists(self):
        for rule in NO_LISTS:
            self.assert_bad("rules", "door", LINKS, {}, [rule])
            self.assert_bad("rules", "door", LINKS, {}, (("bar", []), rule))

    def test_rules_that_have_no_form(self):
        for rule in ([], ["bar"], ["own", []], ["Bar", []], ["", []], [[], "bar"], ["value", [], "v"]):
            self.assert_bad_rule(*rule)
        for first in ODD + LISTS + DICTS + [True, False, "", "x", "own", "link", "Send", "sends", "bars", "sen"]:
            for rest in ([[]], [[], "v"], [[], "to", "try"], [[], "to", "", "try", True]):
                self.assert_bad_rule(first, *rest)

    def test_wrong_number_of_items(self):
        for rule in EACH_RULE:
            for k in range(len(rule)):
                self.assert_bad_rule(*rule[:k])
            for more in ("a", True, None, [], "try"):
                self.assert_bad_rule(*rule, more)

    def test_the_items_of_one_form_behind_the_word_of_another(self):
        for rule in EACH_RULE:
            for other in EACH_RULE:
                if len(rule) != len(other):
                    self.assert_bad_rule(rule[0], *other[1:])

    def test_names_that_are_no_list(self):
        for names in NO_LISTS:
            for rule in EACH_RULE:
                self.assert_bad_rule(rule[0], names, *rule[2:])

    def test_five_names_doubled_names_and_what_is_no_name(self):
        for names in (["a", "b", "c", "d", "e"], ["a", "a"], ("a", "b", "c", "b")):
            for rule in EACH_RULE:
                self.assert_bad_rule(rule[0], names, *rule[2:])
        for name in NO_NAMES:
            for rule in EACH_RULE:
                self.assert_bad_rule(rule[0], [name], *rule[2:])
                self.assert_bad_rule(rule[0], ("a", name), *rule[2:])

    def test_values_that_are_no_names(self):
        for value in NO_NAMES:
            self.assert_bad_rule("tell", [], value)

    def test_links_that_do_not_exist(self):
        for link in BAD_LINKS:
            self.assert_bad_rule("give", [], link, "try")
            self.assert_bad_rule("send", [], link, "", "try", True)
        self.assert_bad("rules", "door", {}, {}, [("give", [], "to", "try")])
        self.assert_bad("rules", "door", {"via": [""]}, {}, [("send", [], "to", "", "try", True)])

    def test_wrong_manners(self):
        for manner in NO_NAMES + ["first", "tryx", "tr", "lasts", "wrap"]:
            self.assert_bad_rule("give", [], "to", manner)
            self.assert_bad_rule("send", [], "to", "", manner, True)

    def test_wrong_unders(self):
        for under in NO_NAMES_OR_EMPTY:
            self.assert_bad_rule("send", [], "to", under, "try", True)

    def test_wrong_wraps(self):
        for wraps in NO_FLAGS:
            self.assert_bad_rule("send", [], "to", "", "try", wraps)


class TestHidden(KindTest):
    def test_flags(self):
        self.assertIs(kind_of(hidden=True).hidden, True)
        self.assertIs(kind_of(hidden=False).hidden, False)
        self.assertIs(Kind("door", {}, {}, []).hidden, False)

    def test_what_is_no_flag(self):
        for hidden in NO_FLAGS:
            self.assert_bad("hidden", "door", {}, {}, [], hidden=hidden)

    def test_hidden_is_passed_by_keyword_only(self):
        with self.assertRaises(TypeError):
            Kind("door", {}, {}, [], True)


class TestFirstInvalidPart(KindTest):
    def test_the_first_invalid_part_is_named(self):
        valid = ["door", LINKS, {"key": ("self",)}, EACH_RULE, False]
        wrong = ["Door", {"to": []}, {"key": ("self", 1)}, [("bar", None)], 1]
        parts = ["name", "links", "own", "rules", "hidden"]
        for mask in range(1, 32):
            at = [k for k in range(5) if mask >> k & 1]
            name, links, own, rules, hidden = [wrong[k] if k in at else valid[k] for k in range(5)]
            self.assert_bad(parts[at[0]], name, links, own, rules, hidden=hidden)

    def test_invalid_in_the_deep(self):
        for deep in (nested(90), nested_dict(90)):
            for k in range(4):
                arguments = ["door", {}, {}, []]
                arguments[k] = deep
                self.assert_bad(["name", "links", "own", "rules"][k], *arguments)
            self.assert_bad("hidden", "door", {}, {}, [], hidden=deep)

    def test_bad_kind_is_an_ask_error(self):
        with self.assertRaises(AskError):
            Kind(None, None, None, None)


def all_rules_kept(rules):
    """Return the rules as rules() returns them."""
    return [(rule[0], tuple(sorted(rule[1])), *rule[2:]) for rule in rules]


class TestReturned(unittest.TestCase):
    def test_order_of_names_in_a_rule_is_ascending(self):
        kind = kind_of(rules=[("bar", ["d", "b", "c", "a"]), ("tell", ("b", "ab"), "v")])
        self.assertEqual(kind.rules(), [("bar", ("a", "b", "c", "d")), ("tell", ("ab", "b"), "v")])

    def test_order_of_rules_is_kept(self):
        rules = [("tell", ("b",), "v"), ("bar", ()), ("tell", ("a",), "v"), ("bar", ())]
        self.assertEqual(kind_of(rules=rules).rules(), rules)
        self.assertEqual(kind_of(rules=rules[::-1]).rules(), rules[::-1])

    def test_lists_and_tuples_are_the_same(self):
        links = {"to": ["room", ""], "via": ["hall"]}
        own = {"key": ["value", "k"], "me": ["self"], "it": ["link", "to"]}
        for form in (all_lists, all_tuples):
            kind = Kind("door", {link: form(links[link]) for link in links},
                        {name: form(own[name]) for name in own}, form(EACH_RULE))
            self.assertEqual(kind.links(), {"to": ("", "room"), "via": ("hall",)})
            self.assertEqual(kind.own(), {"key": ("value", "k"), "me": ("self",), "it": ("link", "to")})
            self.assertEqual(kind.rules(), all_rules_kept(EACH_RULE))

    def test_kinds_of_what_is_returned(self):
        kind = kind_of(own={"key": ["value", "k"]}, rules=[["bar", ["key"]]])
        self.assertIs(type(kind.name), str)
        self.assertIs(type(kind.links()), dict)
        self.assertIs(type(kind.links()["to"]), tuple)
        self.assertIs(type(kind.own()), dict)
        self.assertIs(type(kind.own()["key"]), tuple)
        self.assertIs(type(kind["key"]), tuple)
        self.assertIs(type(kind.rules()), list)
        self.assertIs(type(kind.rules()[0]), tuple)
        self.assertIs(type(kind.rules()[0][1]), tuple)

    def test_item(self):
        kind = kind_of(own={"key": ("value", "k"), "me": ["self"], "it": ["link", "to"]})
        self.assertEqual(kind["key"], ("value", "k"))
        self.assertEqual(kind["me"], ("self",))
        self.assertEqual(kind["it"], ("link", "to"))

    def test_no_item(self):
        kind = kind_of(own={"key": ("value", "k"), "me": ("self",)}, rules=[("tell", ["lamp"], "on")])
        for name in NO_NAMES + ["lamp", "to", "k", "door", "ke", "keys", "value", "self", ("key",), ["key"]]:
            with self.assertRaises(NoName) as caught:
                kind[name]
            self.assertIs(caught.exception.what, name)

    def test_in(self):
        kind = kind_of(own={"key": ("value", "k"), "me": ("self",)}, rules=[("tell", ["lamp"], "on")])
        self.assertIs("key" in kind, True)
        self.assertIs("me" in kind, True)
        for name in NO_NAMES + ["lamp", "to", "k", "door", "value", "self", ("key",), ["key"]]:
            self.assertIs(name in kind, False)
            self.assertIs(name not in kind, True)

    def test_a_kind_is_not_iterated_over(self):
        with self.assertRaises(TypeError):
            list(plain_kind())

    def test_listed_methods_stand_in_the_class(self):
        for name in ("name", "hidden", "links", "own", "rules", "__getitem__", "__contains__", "__eq__"):
            self.assertIn(name, vars(Kind))


class TestEqual(unittest.TestCase):
    def test_equal_parts(self):
        own = {"key": ("value", "k"), "me": ("self",)}
        one = Kind("door", {"to": ["room", ""], "via": ["a"]}, own, [("bar", ["a", "b"])], hidden=True)
        two = Kind("door", {"via": ("a",), "to": ("", "room")}, {"me": ["self"], "key": ["value", "k"]},
                   (["bar", ("b", "a")],), hidden=True)
        self.assertTrue(one == two)
        self.assertFalse(one != two)
        self.assertTrue(one == one)

    def test_each_part_counts(self):
        base = kind_of(own={"a": ("self",)}, rules=[("bar", ["a"]), ("self", [])])
        others = [
            kind_of("doors", own={"a": ("self",)}, rules=[("bar", ["a"]), ("self", [])]),
            kind_of(links={"to": ["room"], "via": ["hall"]}, own={"a": ("self",)},
                    rules=[("bar", ["a"]), ("self", [])]),
            kind_of(own={"a": ("value", "v")}, rules=[("bar", ["a"]), ("self", [])]),
            kind_of(own={}, rules=[("bar", ["a"]), ("self", [])]),
            kind_of(own={"a": ("self",)}, rules=[("self", []), ("bar", ["a"])]),
            kind_of(own={"a": ("self",)}, rules=[("bar", ["a"])]),
            kind_of(own={"a": ("self",)}, rules=[("bar", ["a"]), ("self", [])], hidden=True),
        ]
        for other in others:
            self.assertFalse(base == other)
            self.assertTrue(base != other)

    def test_wraps_counts(self):
        one, two = [kind_of(rules=[("send", [], "to", "", "try", wraps)]) for wraps in (True, False)]
        self.assertFalse(one == two)


class TestCopies(unittest.TestCase):
    def arguments(self):
        return {
            "name": "door",
            "links": {"to": ["room", ""], "via": ["hall"]},
            "own": {"me": ["self"], "key": ["value", "k"]},
            "rules": [["bar", ["d", "c"]], ["send", ["b", "a"], "to", "", "last", True]],
            "hidden": True,
        }

    def test_every_argument_by_keyword(self):
        kind = Kind(**self.arguments())
        self.assertEqual(kind.name, "door")
        self.assertEqual(kind.links(), {"to": ("", "room"), "via": ("hall",)})
        self.assertEqual(kind.own(), {"key": ("value", "k"), "me": ("self",)})
        self.assertEqual(kind.rules(), [("bar", ("c", "d")), ("send", ("a", "b"), "to", "", "last", True)])
        self.assertIs(kind.hidden, True)

    def test_arguments_are_not_changed(self):
        arguments = self.arguments()
        Kind(**arguments)
        self.assertEqual(arguments, self.arguments())
        self.assertEqual(list(arguments["links"]), ["to", "via"])
        self.assertEqual(list(arguments["own"]), ["me", "key"])

    def test_arguments_are_not_changed_by_an_error(self):
        arguments = self.arguments()
        arguments["hidden"] = 1
        with self.assertRaises(BadKind):
            Kind(**arguments)
        self.assertEqual(arguments, {**self.arguments(), "hidden": 1})

    def test_later_changes_to_arguments_have_no_effect(self):
        arguments = self.arguments()
        kind = Kind(**arguments)
        arguments["links"]["to"].append("x")
        arguments["links"]["more"] = ["x"]
        arguments["own"]["me"][0] = "x"
        del arguments["own"]["key"]
        arguments["rules"][0][1].append("x")
        arguments["rules"][1][5] = False
        arguments["rules"].pop()
        self.assertEqual(kind, Kind(**self.arguments()))

    def test_later_changes_to_what_was_returned_have_no_effect(self):
        kind = Kind(**self.arguments())
        kind.links()["to"] = ()
        kind.own().clear()
        kind.rules().pop()
        self.assertEqual(kind, Kind(**self.arguments()))
        self.assertEqual(len(kind.links()), 2)
        self.assertEqual(len(kind.own()), 2)
        self.assertEqual(len(kind.rules()), 2)

    def test_lists_and_dicts_are_new_at_each_call(self):
        kind = Kind(**self.arguments())
        self.assertIsNot(kind.links(), kind.links())
        self.assertIsNot(kind.own(), kind.own())
        self.assertIsNot(kind.rules(), kind.rules())

    def test_parts_cannot_be_set(self):
        kind = Kind(**self.arguments())
        with self.assertRaises(AttributeError):
            kind.name = "x"
        with self.assertRaises(AttributeError):
            kind.hidden = False


class TestSteps(unittest.TestCase):
    RULES = [
        ("send", ("a",), "to", "b", "try", False),
        ("bar", ("b", "c")),
        ("tell", (), "v"),
        ("give", ("a", "b"), "via", "try"),
        ("self", ()),
    ]

    def test_an_own_answer_is_the_only_step(self):
        kind = kind_of(own={"a": ("value", "v"), "b": ["self"], "c": ["link", "to"]}, rules=self.RULES)
        self.assertEqual(steps_at(kind, "a"), [("value", "v")])
        self.assertEqual(steps_at(kind, "b"), [("self",)])
        self.assertEqual(steps_at(kind, "c"), [("link", "to")])

    def test_the_rules_for_a_name_in_their_order(self):
        kind = kind_of(own={"me": ("self",)}, rules=self.RULES)
        bar, tell, give, self_ = self.RULES[1:]
        self.assertEqual(steps_at(kind, "a"), [self.RULES[0], tell, give, self_])
        self.assertEqual(steps_at(kind, "b"), [bar, tell, give, self_])
        self.assertEqual(steps_at(kind, "c"), [bar, tell, self_])
        self.assertEqual(steps_at(kind, "d"), [tell, self_])

    def test_at_the_column_of_all_other_names_only_rules_without_names(self):
        self.assertEqual(steps_at(kind_of(rules=self.RULES), ""), [("tell", (), "v"), ("self", ())])
        self.assertEqual(steps_at(kind_of(rules=self.RULES[:2]), ""), [])

    def test_no_steps(self):
        self.assertEqual(steps_at(plain_kind(), ""), [])
        self.assertEqual(steps_at(plain_kind(), "a"), [])

    def test_later_changes_to_the_steps_have_no_effect(self):
        kind = kind_of(rules=self.RULES)
        steps_at(kind, "a").clear()
        self.assertEqual(len(steps_at(kind, "a")), 4)
        self.assertEqual(kind.rules(), self.RULES)


if __name__ == "__main__":
    unittest.main()
