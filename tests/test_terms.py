"""Point 2: names, flags, indexes, and lists or tuples."""

import unittest

from onwardasks.terms import has_keys, is_flag, is_index, is_list, is_name, is_name_or_empty
from tests.samples import (
    DICTS, FLAGS, LISTS, NO_DICTS, NO_FLAGS, NO_LISTS, NO_NAMES, NO_NAMES_OR_EMPTY, ODD, no_indexes)

NAMES = ["a", "z", "to", "key", "abcdefgh", "zzzzzzzz", "self", "value", "try"]


class TestTerms(unittest.TestCase):
    def test_names(self):
        for name in NAMES:
            self.assertIs(is_name(name), True, name)
        for letter in "abcdefghijklmnopqrstuvwxyz":
            self.assertIs(is_name(letter), True, letter)

    def test_every_other_ascii_character_is_no_letter(self):
        for number in range(128):
            if not 97 <= number <= 122:
                self.assertIs(is_name(chr(number)), False, number)
                self.assertIs(is_name("a" + chr(number)), False, number)

    def test_what_is_no_name(self):
        for x in NO_NAMES:
            self.assertIs(is_name(x), False)

    def test_names_or_empty(self):
        for name in NAMES + [""]:
            self.assertIs(is_name_or_empty(name), True, name)
        for x in NO_NAMES_OR_EMPTY:
            self.assertIs(is_name_or_empty(x), False)

    def test_flags(self):
        for flag in FLAGS:
            self.assertIs(is_flag(flag), True)
        for x in NO_FLAGS:
            self.assertIs(is_flag(x), False)

    def test_lists_and_tuples(self):
        for x in LISTS:
            self.assertIs(is_list(x), True)
        for x in NO_LISTS + ODD + DICTS:
            self.assertIs(is_list(x), False)

    def test_indexes(self):
        for many in (1, 2, 7):
            for x in range(many):
                self.assertIs(is_index(x, many), True)
            for x in no_indexes(many):
                self.assertIs(is_index(x, many), False)
        self.assertIs(is_index(0, 0), False)

    def test_dicts_with_exactly_these_keys(self):
        self.assertIs(has_keys({}, []), True)
        self.assertIs(has_keys({"a": 1, "b": None}, {"b": 2, "a": 3}), True)
        for x in NO_DICTS:
            self.assertIs(has_keys(x, []), False)
        for x in ({}, {"a": 1}, {"a": 1, "c": 1}, {"a": 1, "b": 1, "c": 1}, {"a": 1, 1: 1}):
            self.assertIs(has_keys(x, ["a", "b"]), False)


if __name__ == "__main__":
    unittest.main()
