"""Points 3, 4 and 25: spread_fault, fall_fault and founded_fault."""

import copy
import unittest

from onwardasks.errors import BadRow, TooMany
from onwardasks.houses import House
from onwardasks.kinds import Kind
from onwardasks.lists import (
    claims, fall, fall_fault, founded, founded_fault, real, spread, spread_fault)
from onwardasks.panels import Panel, made, seed
from tests.crowded import hundred_pairs, sixty_rows
from tests.drawn import draw_house, draw_other_house, source
from tests.reference import all_made, all_made_pairs, as_endless, known, slow_seeds
from tests.samples import ANYTHING, NO_LISTS, nested, ring_house, send

U, E, R, S, V = ("unknown",), ("endless",), ("refused",), ("self",), ("value", "v")
K = ("thing", "k")


def chain_panel():
    """Return a panel in which rows fall step by step: a asks b, b asks c, and c is told."""
    return Panel(ring_house(send(["a"], "b"), send(["b"], "c"), ("tell", ["c"], "v"), choices=["k"]))


def trial_panel():
    return Panel(ring_house(send(["a"], "", "try"), ("tell", ["a"], "v")))


def drawn_panels(seed_, many, **how):
    """Return panels of one house or two whose lists are not too long."""
    chance = source(seed_)
    panels = []
    while len(panels) < many:
        one = draw_house(chance, **how)
        panel = Panel(*[one, draw_other_house(chance, one)][:chance.choice([1, 1, 2])])
        try:
            if len(founded(panel)) > 3:
                panels.append(panel)
        except TooMany:
            pass
    return panels


def shuffled(chance, xs):
    """Return the elements in another order, some of them twice, some with lists in the place of tuples."""
    mixed = list(xs) + (chance.choices(xs, k=3) if xs else [])
    chance.shuffle(mixed)
    return [as_lists(x) if chance.random() < 0.5 else x for x in mixed]


def as_lists(x):
    return [as_lists(part) for part in x] if isinstance(x, tuple) else x


class TestBadRow(unittest.TestCase):
    """Each judge looks at its rows first, whatever comes behind them."""

    JUDGES = [(spread_fault, []), (fall_fault, [None]), (fall_fault, [()]), (founded_fault, [None]), (founded_fault, [()])]

    def assert_bad(self, place, rows, judges=None):
        for judge, rest in judges or self.JUDGES:
            for form in (rows, tuple(rows)) if type(rows) is list else (rows,):
                with self.assertRaises(BadRow) as caught:
                    judge(trial_panel(), form, *rest)
                self.assertEqual(caught.exception.what, place)

    def test_no_list(self):
        for rows in NO_LISTS:
            self.assert_bad(-1, rows)

    def test_the_first_element_that_is_no_row(self):
        row = ("k", (R, V), ())
        for x in ANYTHING + [("k", (R, V)), ("k", (R,), ()), ("l", (R, V), ()), ("k", (K, K), ((1, 0),)),
                             ("k", (K, R), ((0, 1),)), ("k", (("thing", "l"), R), ()), ("k", (K, K), ((0, 1), (0, 1))),
                             nested(90), ("k", nested(88), ())]:
            self.assert_bad(0, [x])
            self.assert_bad(2, [row, row, x, x, row])

    def test_founded_fault_takes_whole_rows_only(self):
        row, half = ("k", (R, V), ()), ("k", (R, U), ())
        self.assert_bad(1, [row, half], [(founded_fault, [[]]), (founded_fault, [None])])
        self.assert_bad(0, [half, None], [(founded_fault, [[]])])
        self.assert_bad(0, [None, half], [(founded_fault, [[]])])
        self.assert_bad(1, [half, None], [(spread_fault, []), (fall_fault, [[]])])


class TestSpreadFault(unittest.TestCase):
    def test_example(self):
        panel = Panel(ring_house(send(["a"], "a"), choices=["k"]))
        rows = [("k", (R, U), ()), ("k", (U, U), ())]
        self.assertIsNone(spread_fault(panel, rows))
        self.assertIsNone(spread_fault(panel, rows[::-1] + rows))
        self.assertEqual(spread_fault(panel, rows[:1]), ("lacks", rows[1]))
        self.assertEqual(spread_fault(panel, rows[1:]), ("lacks", rows[0]))
        self.assertEqual(spread_fault(panel, []), ("lacks", rows[1]))
        self.assertEqual(spread_fault(panel, ()), ("lacks", rows[1]))

    def test_larger_lists_that_are_closed(self):
        panel = Panel(ring_house(send(["a"], "a"), choices=["k"]))
        rows = spread(panel)
        for more in (("k", (R, V), ()), ("k", (R, E), ()), ("k", (R, K), ())):
            self.assertIsNone(spread_fault(panel, rows + [more]))
        self.assertIsNone(spread_fault(panel, rows + [("k", (V, V), ())] + [("k", (R, V), ())]))
        self.assertEqual(spread_fault(panel, rows + [("k", (V, V), ())]), ("lacks", ("k", (R, V), ())))

    def test_seeds_of_all_kinds_and_kinds_without_links(self):
        panel = Panel(House([Kind("k", {}, {}, []), Kind("l", {}, {}, [("self", [])])]))
        rows = spread(panel)
        self.assertEqual(len(rows), 4)
        for row in rows:
            self.assertEqual(spread_fault(panel, [one for one in rows if one != row]), ("lacks", row))
        self.assertEqual(spread_fault(panel, []), ("lacks", ("k", (R,), ())))

    def test_drawn(self):
        chance = source(31)
        for panel in drawn_panels(32, 40):
            rows = spread(panel)
            self.assertIsNone(spread_fault(panel, shuffled(chance, rows)))
            seeds = slow_seeds(panel.houses())
            for row in chance.sample(rows, min(len(rows), 6)):
                less = [one for one in rows if one != row]
                needed = (seeds | all_made(panel.houses(), less)) - set(less)
                fault = ("lacks", min(needed)) if needed else None
                self.assertEqual(spread_fault(panel, shuffled(chance, less)), fault)
                self.assertIsNotNone(fault)

    def test_the_longest_list(self):
        panel = Panel(sixty_rows())
        self.assertIsNone(spread_fault(panel, spread(panel)))
        for row in spread(panel)[::10]:
            self.assertIsNotNone(spread_fault(panel, [one for one in spread(panel) if one != row]))


class TestFallFault(unittest.TestCase):
    def test_by_hand(self):
        panel = chain_panel()
        rows = spread(panel)
        first, second, third = fall(panel)
        self.assertIsNone(fall_fault(panel, rows, fall(panel)))
        self.assertIsNone(fall_fault(panel, [as_endless(row) for row in rows], tuple(fall(panel))))
        self.assertEqual(fall_fault(panel, rows, [second, first, third]), ("stands", 0))
        self.assertEqual(fall_fault(panel, rows, [first, third, second]), ("stands", 1))
        self.assertEqual(fall_fault(panel, rows, [first, second]), ("lacks", third))
        self.assertEqual(fall_fault(panel, rows, []), ("lacks", first))
        self.assertEqual(fall_fault(panel, rows, [first, first]), ("row", 1))
        self.assertEqual(fall_fault(panel, rows, [first, second, third] + claims(panel)), ("stands", 3))
        self.assertEqual(fall_fault(panel, rows, [("k", (V, V, V, V), ()), first]), ("row", 0))

    def test_a_row_that_makes_itself_stands(self):
        panel = Panel(ring_house(send(["a"], "a"), choices=["k"]))
        self.assertEqual(fall_fault(panel, [("k", (R, V), ())], [("k", (R, V), ())]), ("stands", 0))
        self.assertIsNone(fall_fault(panel, [("k", (R, V), ())], []))
        self.assertIsNone(fall_fault(panel, [], []))

    def test_unknown_is_read_as_endless_in_rows_but_not_in_order(self):
        panel = chain_panel()
        rows = spread(panel)
        self.assertEqual(fall_fault(panel, rows, [seed(panel, "k")]), ("row", 0))
        self.assertEqual(fall_fault(panel, rows, fall(panel)[:2] + [rows[1]]), ("row", 2))

    def test_elements_that_are_no_rows(self):
        panel = chain_panel()
        first = fall(panel)[0]
        for x in ANYTHING + [first[:2], (first,), ("l",) + first[1:], nested(90)]:
            self.assertEqual(fall_fault(panel, spread(panel), [x]), ("row", 0))
            self.assertEqual(fall_fault(panel, spread(panel), (first, x, first, x)), ("row", 1))

    def test_order_that_is_no_list(self):
        for order in NO_LISTS:
            self.assertEqual(fall_fault(chain_panel(), spread(chain_panel()), order), ("row", -1))
            self.assertEqual(fall_fault(chain_panel(), [], order), ("row", -1))

    def test_lists_in_the_place_of_tuples(self):
        panel = chain_panel()
        self.assertIsNone(fall_fault(panel, as_lists(tuple(spread(panel))), as_lists(tuple(fall(panel)))))

    def test_the_first_fault_in_order(self):
        panel = chain_panel()
        first, second, third = fall(panel)
        self.assertEqual(fall_fault(panel, spread(panel), [first, third, None]), ("stands", 1))
        self.assertEqual(fall_fault(panel, spread(panel), [first, None, third]), ("row", 1))

    def test_drawn(self):
        chance = source(33)
        fallen = 0
        for panel in drawn_panels(34, 60):
            rows, order = spread(panel), fall(panel)
            self.assertIsNone(fall_fault(panel, shuffled(chance, rows), as_lists(tuple(order))))
            fallen += len(order)
            claimed = claims(panel)
            if order:
                self.assertEqual(fall_fault(panel, rows, order[:-1])[0], "lacks")
                self.assertEqual(fall_fault(panel, rows, order + [order[0]]), ("row", len(order)))
                self.assertEqual(fall_fault(panel, rows, claimed[:1] + order), ("stands", 0))
                self.assertEqual(fall_fault(panel, rows, order + claimed[-1:]), ("stands", len(order)))
            # Without one claim others may be made no longer; the least one of them is told.
            for row in claimed[:4]:
                less = [one for one in claimed if one != row]
                lacks = set(less) - all_made(panel.houses(), less)
                self.assertEqual(fall_fault(panel, less, []), ("lacks", min(lacks)) if lacks else None)
        self.assertGreater(fallen, 100)

    def test_any_order_in_which_each_row_is_not_made_when_it_falls(self):
        chance = source(35)
        for panel in drawn_panels(36, 30):
            standing = {as_endless(row) for row in spread(panel)}
            order = []
            while weak := sorted(standing - all_made(panel.houses(), standing)):
                order.append(chance.choice(weak))
                standing.remove(order[-1])
            self.assertIsNone(fall_fault(panel, spread(panel), order))
            self.assertEqual(sorted(standing), claims(panel))


class TestFoundedFault(unittest.TestCase):
    def test_by_hand(self):
        panel = trial_panel()
        rows, pairs = claims(panel), founded(panel)
        endless, told = rows
        self.assertEqual(rows, [("k", (R, E), ()), ("k", (R, V), ())])
        self.assertIsNone(founded_fault(panel, rows, pairs))
        self.assertIsNone(founded_fault(panel, tuple(rows[::-1] + rows), tuple(pairs[::-1] + pairs)))
        for pair in pairs:
            fault = founded_fault(panel, rows, [one for one in pairs if one != pair])
            self.assertEqual(fault, ("lacks", pair))
        self.assertEqual(founded_fault(panel, rows, []), ("lacks", (endless, ())))
        self.assertEqual(founded_fault(panel, rows, pairs[:1]), ("lacks", (endless, (0,))))
        # A larger list that is closed, too: position 1 alone is derived of itself only below.
        self.assertEqual(founded_fault(panel, rows, pairs + [(told, (1,))]), None)

    def test_no_rows(self):
        panel = Panel(ring_house(choices=["k"]))
        self.assertIsNone(founded_fault(panel, [], []))
        self.assertEqual(founded_fault(trial_panel(), [], []), ("lacks", (("k", (R, V), ()), (0, 1))))

    def test_wrong_pairs(self):
        panel = trial_panel()
        rows, pairs = claims(panel), founded(panel)
        endless, told = rows
        for x in ANYTHING + [
                told, (told,), (told, (), ()), ((), told), (told, None), (told, 0), (told, {0: 1}), (told, "01"),
                (told, (1, 0)), (told, (0, 0)), (told, (0, 1, 1)), (told, (2,)), (told, (-1,)), (told, (-1, 0)),
                (told, (0, 1, 2)), (told, (True,)), (told, (False, 1)), (told, ("0",)), (told, (None,)),
                (told, ((0,),)), (endless, (1,)), (endless, (0, 1)), (("k", (R, S), ()), ()), (("k", (R, U), ()), ()),
                (("k", (R,), ()), ()), ("k", ()), nested(90), (told, nested(88)), (nested(88), ())]:
            self.assertEqual(founded_fault(panel, rows, [x]), ("pair", 0))
            self.assertEqual(founded_fault(panel, rows, pairs + [x, None]), ("pair", len(pairs)))

    def test_a_pair_of_a_row_that_is_not_in_rows(self):
        panel = trial_panel()
        rows, pairs = claims(panel), founded(panel)
        self.assertEqual(founded_fault(panel, rows[:1], pairs), ("pair", 2))
        self.assertEqual(founded_fault(panel, rows[1:], pairs), ("pair", 0))

    def test_a_made_pair_whose_row_is_not_in_rows_is_lacking(self):
        panel = trial_panel()
        self.assertEqual(founded_fault(panel, [("k", (R, E), ())], [(("k", (R, E), ()), ())]),
                         ("lacks", (("k", (R, E), ()), (0,))))
        pairs = [(("k", (R, E), ()), ()), (("k", (R, E), ()), (0,))]
        self.assertEqual(founded_fault(panel, [("k", (R, E), ())], pairs), ("lacks", (("k", (R, V), ()), (0, 1))))

    def test_pairs_that_are_no_list(self):
        for pairs in NO_LISTS:
            self.assertEqual(founded_fault(trial_panel(), claims(trial_panel()), pairs), ("pair", -1))

    def test_drawn(self):
        chance = source(37)
        for panel in drawn_panels(38, 40):
            rows, pairs = claims(panel), founded(panel)
            self.assertIsNone(founded_fault(panel, shuffled(chance, rows), shuffled(chance, pairs)))
            for pair in chance.sample(pairs, min(len(pairs), 4)):
                less = [one for one in pairs if one != pair]
                needed = ({(row, ()) for row in rows} | all_made_pairs(panel.houses(), less)) - set(less)
                fault = ("lacks", min(needed)) if needed else None
                self.assertEqual(founded_fault(panel, rows, shuffled(chance, less)), fault)
                self.assertIsNotNone(fault)
            more = [(row, known(row)) for row in rows]
            needed = all_made_pairs(panel.houses(), pairs + more) - set(pairs + more)
            self.assertEqual(founded_fault(panel, rows, pairs + more), ("lacks", min(needed)) if needed else None)

    def test_the_longest_list(self):
        panel = Panel(hundred_pairs())
        rows, pairs = claims(panel), founded(panel)
        self.assertIsNone(founded_fault(panel, rows, pairs))
        for pair in pairs[::20]:
            self.assertEqual(founded_fault(panel, rows, [one for one in pairs if one != pair])[0], "lacks")

    def test_real_rows_without_the_other_claims(self):
        for panel in drawn_panels(39, 20):
            rows = set(real(panel))
            pairs = [pair for pair in founded(panel) if pair[0] in rows]
            self.assertIsNone(founded_fault(panel, sorted(rows), pairs))


class TestArguments(unittest.TestCase):
    def test_by_keyword(self):
        panel = chain_panel()
        self.assertIsNone(spread_fault(rows=spread(panel), panel=panel))
        self.assertIsNone(fall_fault(order=fall(panel), rows=spread(panel), panel=panel))
        self.assertIsNone(founded_fault(pairs=founded(panel), rows=claims(panel), panel=panel))

    def test_arguments_are_not_changed(self):
        panel = chain_panel()
        arguments = [as_lists(tuple(xs)) for xs in (spread(panel), fall(panel), claims(panel), founded(panel))]
        before = copy.deepcopy(arguments)
        rows, order, claimed, pairs = arguments
        spread_fault(panel, rows)
        fall_fault(panel, rows, order)
        founded_fault(panel, claimed, pairs)
        self.assertEqual(arguments, before)

    def test_faults_are_told_in_tuples(self):
        panel = chain_panel()
        for fault in (spread_fault(panel, as_lists(tuple(spread(panel)[:1]))),
                      fall_fault(panel, as_lists(tuple(spread(panel))), []),
                      founded_fault(panel, as_lists(tuple(claims(panel))), as_lists(tuple(founded(panel)[1:])))):
            self.assertEqual(fault[0], "lacks")
            self.assertEqual([type(fault), type(fault[1])], [tuple, tuple])
            self.assertNotIn(list, [type(part) for part in fault[1]])

    def test_a_row_that_the_judges_take_is_one_that_made_takes(self):
        panel = trial_panel()
        row = ["k", [["refused"], ["thing", "k"]], []]
        self.assertEqual(made(panel, "k", {"to": row}), ("k", (R, K), ()))
        self.assertEqual(spread_fault(panel, [row])[0], "lacks")


if __name__ == "__main__":
    unittest.main()
