"""What the tests of several modules have in common."""

import itertools
import unittest

from onwardasks.errors import AskError, TooMany
from onwardasks.lists import founded
from onwardasks.panels import Panel
from tests.crowded import hundred_one_pairs, sixty_one_rows
from tests.drawn import draw_house, draw_other_house, source


class Case(unittest.TestCase):
    def error_of(self, error, function, *args, **more):
        """Return the error that a call raises; it is exactly of this class."""
        with self.assertRaises(AskError) as caught:
            function(*args, **more)
        self.assertIs(type(caught.exception), error)
        return caught.exception

    def assert_error(self, error, what, function, *args, **more):
        """The call raises this error with this attribute what."""
        self.assertEqual(self.error_of(error, function, *args, **more).what, what)

    def assert_told(self, error, what, function, *args, **more):
        """The call raises this error with this very argument as its attribute what."""
        self.assertIs(self.error_of(error, function, *args, **more).what, what)

    def assert_too_many(self, function, *args, **more):
        """A function of a house raises what the lists of the panel of its house raise."""
        self.assert_error(TooMany, 60, function, sixty_one_rows(), *args, **more)
        self.assert_error(TooMany, 100, function, hundred_one_pairs(), *args, **more)

    def assert_by_keyword(self, expected, function, **more):
        """The function returns the same for these keywords in every order."""
        for names in itertools.permutations(more):
            self.assertEqual(function(**{name: more[name] for name in names}), expected)


def fits_bounds(houses):
    """Tell whether the lists of the panel of these houses can be worked out."""
    try:
        founded(Panel(*houses))
    except TooMany:
        return False
    return True


def houses_in_bounds(seed, many, **how):
    """Return many drawn houses whose lists can be worked out."""
    chance = source(seed)
    drawn = []
    while len(drawn) < many:
        house = draw_house(chance, **how)
        if fits_bounds([house]):
            drawn.append(house)
    return drawn


def pairs_in_bounds(seed, many, *, most_rules=4, **how):
    """Return many drawn pairs of alike houses whose lists can be worked out."""
    chance = source(seed)
    drawn = []
    while len(drawn) < many:
        house = draw_house(chance, most_rules=most_rules, **how)
        other = draw_other_house(chance, house, most_rules=most_rules)
        if fits_bounds([house, other]):
            drawn.append([house, other])
    return drawn
