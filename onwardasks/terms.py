"""The plain terms of the program: names, flags, indexes, and lists or tuples."""

LETTERS = "abcdefghijklmnopqrstuvwxyz"
LONGEST_NAME = 8


def is_name(x):
    """Tell whether x is a name: a string of 1 to 8 letters from a to z."""
    if not isinstance(x, str) or not 1 <= len(x) <= LONGEST_NAME:
        return False
    return all([letter in LETTERS for letter in x])


def is_name_or_empty(x):
    """Tell whether x is a name or the empty string."""
    return isinstance(x, str) and (x == "" or is_name(x))


def is_flag(x):
    """Tell whether x is True or False."""
    return x is True or x is False


def is_list(x):
    """Tell whether x is a list or a tuple, which are the same argument."""
    return isinstance(x, (list, tuple))


def is_index(x, many):
    """Tell whether x is an index into so many items: an integer, neither a flag nor negative."""
    return isinstance(x, int) and not is_flag(x) and 0 <= x < many


def has_keys(x, keys):
    """Tell whether x is a dict with exactly these keys."""
    return isinstance(x, dict) and len(x) == len(keys) and all([key in x for key in keys])
