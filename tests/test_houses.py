"""Points 3, 8 and 9: House, its columns and with_kind."""

import itertools
import unittest

from onwardasks.errors import AskError, BadHouse, NoKind, NoName
from onwardasks.houses import House
from onwardasks.kinds import Kind
from tests.samples import DICTS, LISTS, NO_LISTS, NO_NAMES, NO_NAMES_OR_EMPTY, ODD, door, plain_kind, room

NO_KINDS = [x for x in ODD if not isinstance(x, Kind)] + ["", "room", True, False] + LISTS + DICTS


def linked(name, *choices):
    return Kind(name, {"via": ["", name], "to": choices}, {}, [])


def telling(name, *names):
    return Kind(name, {}, {}, [("bar", [one]) for one in names])


class TestBadHouse(unittest.TestCase):
    def assert_bad(self, index, kinds):
        for form in (kinds, tuple(kinds)) if isinstance(kinds, list) else (kinds,):
            with self.assertRaises(BadHouse) as caught:
                House(form)
            self.assertEqual(caught.exception.what, index)

    def test_no_list(self):
        for kinds in NO_LISTS + [room(), {"room": room()}, {0: room()}]:
            self.assert_bad(-1, kinds)

    def test_wrong_number_of_kinds(self):
        self.assert_bad(-1, [])
        self.assert_bad(-1, [plain_kind(name) for name in "abcde"])
        self.assert_bad(-1, [plain_kind("a")] * 5)
        self.assert_bad(-1, [None] * 5)
        self.assert_bad(-1, [plain_kind("a")] * 1000)

    def test_what_is_no_kind(self):
        for x in NO_KINDS:
            self.assert_bad(0, [x])
            self.assert_bad(1, [room(), x])
            self.assert_bad(0, [x, room(), None])
            self.assert_bad(3, [plain_kind("a"), plain_kind("b"), plain_kind("c"), x])

    def test_doubled_names(self):
        a, b, c = [plain_kind(name) for name in "abc"]
        self.assert_bad(1, [a, a])
        self.assert_bad(1, [a, plain_kind("a")])
        self.assert_bad(1, [a, Kind("a", {}, {"x": ("self",)}, [], hidden=True)])
        self.assert_bad(2, [a, b, a, b])
        self.assert_bad(3, [a, b, c, b])

    def test_what_comes_first_of_no_kind_and_doubled(self):
        a, b = plain_kind("a"), plain_kind("b")
        self.assert_bad(1, [a, None, a])
        self.assert_bad(1, [a, a, None])
        self.assert_bad(2, [a, b, b, None])

    def test_choices_that_are_no_kinds(self):
        self.assert_bad(0, [linked("a", "room")])
        self.assert_bad(1, [room(), linked("a", "room", "rooms")])
        self.assert_bad(0, [linked("a", "x"), linked("b", "x")])
        self.assert_bad(1, [linked("a", "b", "c"), linked("b", "x"), linked("c", "y")])
        self.assert_bad(3, [linked("a", "b", "d"), linked("b", "c"), linked("c", "a"), linked("d", "", "e")])

    def test_a_choice_in_the_second_link(self):
        for links in ({"a": ["k"], "b": ["x"]}, {"b": ["k"], "a": ["k", "x"]}):
            self.assert_bad(0, [Kind("k", links, {}, [])])

    def test_doubled_names_come_before_choices(self):
        self.assert_bad(1, [linked("a", "x"), linked("a", "x")])
        self.assert_bad(2, [linked("a", "x"), plain_kind("b"), plain_kind("b")])
        self.assert_bad(2, [linked("a", "x"), plain_kind("b"), 7])

    def test_more_than_six_names(self):
        self.assert_bad(-2, [telling("a", *"pqrstuv")])
        self.assert_bad(-2, [telling("a", *"pqr"), telling("b", *"rstuv")])
        self.assert_bad(-2, [telling("a", *"pqrstuvwxyz")])
        self.assertEqual(House([telling("a", *"pqrstu")]).names(), list("pqrstu"))
        self.assertEqual(House([telling("a", *"pqrs"), telling("b", *"rstu")]).names(), list("pqrstu"))

    def test_each_place_of_a_name_counts(self):
        base = [("bar", ["p", "q"]), ("bar", ["r", "s", "t"])]
        for own, rules in [
                ({"u": ("self",), "v": ("self",)}, []),
                ({}, [("bar", ["u", "v"])]),
                ({"u": ("self",)}, [("send", [], "to", "v", "try", True)]),
                ({}, [("send", ["u"], "to", "v", "try", True)])]:
            self.assert_bad(-2, [Kind("a", {"to": ["a"]}, own, base + rules)])

    def test_choices_come_before_the_number_of_names(self):
        self.assert_bad(1, [telling("a", *"pqrstuv"), linked("b", "x")])
        self.assert_bad(1, [telling("a", *"pqrstuv"), telling("a", "p")])

    def test_bad_house_is_an_ask_error(self):
        with self.assertRaises(AskError):
            House(None)


class TestNames(unittest.TestCase):
    def test_own_names_names_of_rules_and_unders(self):
        kinds = [
            Kind("a", {"to": ["a", "b"]}, {"own": ("value", "worth")}, [("tell", ["told", "bar"], "said")]),
            Kind("b", {"via": [""]}, {}, [("send", ["bar"], "via", "under", "try", False),
                                          ("send", [], "via", "", "try", False)]),
        ]
        self.assertEqual(House(kinds).names(), ["bar", "own", "told", "under"])

    def test_names_of_each_form_of_a_rule(self):
        for rule in [("bar", ["x"]), ("tell", ["x"], "v"), ("self", ["x"]), ("give", ["x"], "to", "last"),
                     ("send", ["x"], "to", "", "last", True), ("send", [], "to", "x", "try", False)]:
            self.assertEqual(House([Kind("a", {"to": ["a"]}, {}, [rule])]).names(), ["x"])

    def test_values_links_and_kinds_are_not_named(self):
        kind = Kind("k", {"l": ["k"]}, {"a": ("value", "v"), "b": ("link", "l")}, [("tell", [], "w"),
                                                                                  ("give", [], "l", "try")])
        self.assertEqual(House([kind]).names(), ["a", "b"])

    def test_no_names(self):
        self.assertEqual(House([plain_kind()]).names(), [])
        self.assertEqual(House([plain_kind()]).columns(), [""])

    def test_columns(self):
        house = House([door(), room()])
        self.assertEqual(house.names(), ["key", "lamp", "me", "sign"])
        self.assertEqual(house.columns(), ["", "key", "lamp", "me", "sign"])

    def test_column_of(self):
        house = House([door(), room()])
        for name in house.names():
            self.assertEqual(house.column_of(name), name)
        for name in ("", "zzz", "to", "door", "room", "k", "on", "keys", "abcdefgh"):
            self.assertEqual(house.column_of(name), "")
        self.assertEqual(house.column_of(name="lamp"), "lamp")

    def test_column_of_what_is_no_name(self):
        house = House([door(), room()])
        for name in NO_NAMES_OR_EMPTY:
            with self.assertRaises(NoName) as caught:
                house.column_of(name)
            self.assertIs(caught.exception.what, name)


class TestKinds(unittest.TestCase):
    def test_one_to_four_kinds_in_any_order(self):
        kinds = [linked("d", "a", "b", "c", ""), room(), linked("b", "d"), linked("a", "c"), linked("c", "b", "a")]
        for chosen in ([room()], [room(), door()], kinds[:1] + kinds[2:]):
            first = House(chosen)
            for order in itertools.permutations(chosen):
                for form in (list(order), order):
                    house = House(form)
                    self.assertTrue(house == first)
                    self.assertEqual(house.kinds(), sorted(kind.name for kind in chosen))
                    self.assertEqual(house.names(), first.names())
                    for kind in chosen:
                        self.assertEqual(house[kind.name], kind)

    def test_no_kind(self):
        house = House([door(), room()])
        for name in NO_NAMES + ["doors", "key", "to", "a", ["door"], ("room",), room()]:
            with self.assertRaises(NoKind) as caught:
                house[name]
            self.assertIs(caught.exception.what, name)

    def test_equal(self):
        self.assertTrue(House([door(), room()]) == House((room(), door())))
        self.assertFalse(House([door(), room()]) != House((room(), door())))

    def test_not_equal(self):
        house = House([door(), room()])
        hidden = Kind("room", room().links(), room().own(), room().rules(), hidden=True)
        for other in (House([room()]), House([door(), room(), plain_kind("x")]), House([door(), plain_kind()]),
                      House([door(), hidden])):
            self.assertFalse(house == other)
            self.assertTrue(house != other)

    def test_a_house_is_not_iterated_over(self):
        with self.assertRaises(TypeError):
            list(House([room()]))

    def test_listed_methods_stand_in_the_class(self):
        for name in ("names", "columns", "kinds", "column_of", "with_kind", "__getitem__", "__eq__"):
            self.assertIn(name, vars(House))


class TestWithKind(unittest.TestCase):
    def test_a_kind_is_replaced(self):
        house = House([door(), room()])
        new = Kind("room", {"out": ["door"]}, {}, [("bar", ["new"])])
        other = house.with_kind(new)
        self.assertTrue(other == House([door(), new]))
        self.assertEqual(other.kinds(), ["door", "room"])
        self.assertEqual(other.names(), ["key", "new", "sign"])
        self.assertTrue(house == House([door(), room()]))
        self.assertEqual(house.names(), ["key", "lamp", "me", "sign"])

    def test_a_kind_is_added(self):
        house = House([door(), room()])
        new = linked("hall", "door", "hall")
        self.assertTrue(house.with_kind(kind=new) == House([new, door(), room()]))
        self.assertEqual(house.kinds(), ["door", "room"])
        with self.assertRaises(NoKind):
            house["hall"]

    def test_the_same_kind(self):
        house = House([door(), room()])
        self.assertTrue(house.with_kind(door()) == house)

    def test_what_is_no_kind(self):
        house = House([door(), room()])
        for x in NO_KINDS + [house]:
            with self.assertRaises(NoKind) as caught:
                house.with_kind(x)
            self.assertIs(caught.exception.what, x)

    def assert_bad(self, index, house, kind):
        with self.assertRaises(BadHouse) as caught:
            house.with_kind(kind)
        self.assertEqual(caught.exception.what, index)

    def test_a_fifth_kind(self):
        house = House([plain_kind(name) for name in "abcd"])
        self.assert_bad(-1, house, plain_kind("e"))
        self.assertEqual(house.with_kind(telling("d", "x")).kinds(), ["a", "b", "c", "d"])

    def test_a_missing_choice_is_counted_in_ascending_order(self):
        house = House([plain_kind("d"), plain_kind("b")])
        self.assert_bad(0, house, linked("a", "x"))
        self.assert_bad(0, house, linked("b", "x"))
        self.assert_bad(1, house, linked("c", "x"))
        self.assert_bad(1, house, linked("d", "x"))
        self.assert_bad(2, house, linked("e", "x"))

    def test_too_many_names(self):
        house = House([telling("a", *"pqr"), telling("b", *"stu")])
        self.assert_bad(-2, house, telling("c", "v"))
        self.assert_bad(-2, house, telling("b", *"stuv"))
        self.assertEqual(house.with_kind(telling("b", *"stv")).names(), list("pqrstv"))


class TestCopies(unittest.TestCase):
    def test_arguments_are_not_changed(self):
        kinds = [room(), door()]
        House(kinds=kinds)
        self.assertEqual(kinds, [room(), door()])

    def test_later_changes_to_arguments_have_no_effect(self):
        kinds = [room(), door()]
        house = House(kinds)
        kinds.append(plain_kind("x"))
        kinds[0] = plain_kind("room")
        self.assertTrue(house == House([door(), room()]))

    def test_later_changes_to_what_was_returned_have_no_effect(self):
        house = House([room(), door()])
        for listed in (house.names, house.columns, house.kinds):
            before = listed()
            listed().append("x")
            listed().clear()
            self.assertEqual(listed(), before)
            self.assertIsNot(listed(), listed())
            self.assertIs(type(listed()), list)
        house["door"].rules().clear()
        house["door"].own()["more"] = ("self",)
        self.assertTrue(house == House([door(), room()]))


if __name__ == "__main__":
    unittest.main()
