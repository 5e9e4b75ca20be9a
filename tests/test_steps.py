"""Point 10 in one form: steps, and the short list of them that panels use."""

import unittest

from onwardasks.kinds import Kind
from onwardasks.steps import plain_steps, without_repeats
from tests.samples import send


def told(steps):
    """Return the steps as tuples: an answer alone, or where the step looks."""
    return [step.answer or (step.link, step.asked, step.is_last, step.wraps) for step in steps]


class TestSteps(unittest.TestCase):
    def test_each_own_answer(self):
        kind = Kind("k", {"to": [""]}, {"a": ("value", "v"), "b": ("self",), "c": ("link", "to")}, [("tell", [], "w")])
        self.assertEqual(told(plain_steps(kind, "a")), [("value", "v")])
        self.assertEqual(told(plain_steps(kind, "b")), [("self",)])
        self.assertEqual(told(plain_steps(kind, "c")), [("to", None, True, False)])
        self.assertEqual(told(plain_steps(kind, "d")), [("value", "w")])

    def test_each_rule(self):
        rules = [("bar", ["a"]), ("tell", [], "v"), ("self", []), ("give", [], "to", "try"), ("give", [], "to", "last"),
                 send([], "", "try", True), send([], "b", "last", False)]
        steps = plain_steps(Kind("k", {"to": [""]}, {}, rules), "a")
        self.assertEqual(told(steps), [("refused",), ("value", "v"), ("self",), ("to", None, False, False),
                                       ("to", None, True, False), ("to", "a", False, True), ("to", "b", True, False)])
        self.assertEqual(told(plain_steps(Kind("k", {"to": [""]}, {}, rules), ""))[2:4],
                         [("to", None, False, False), ("to", None, True, False)])

    def short(self, *rules):
        kind = Kind("k", {"to": [""], "via": [""]}, {}, rules)
        return told(without_repeats(plain_steps(kind, "a")))

    def test_nothing_behind_an_end(self):
        self.assertEqual(self.short(("bar", []), ("tell", [], "v")), [("refused",)])
        self.assertEqual(self.short(send([]), ("tell", [], "v")), [("to", "a", True, False)])
        self.assertEqual(self.short(), [])

    def test_repeats(self):
        one, two = send([], "", "try"), send([], "b", "try")
        self.assertEqual(self.short(one, one, two, one, ("self", [])),
                         [("to", "a", False, False), ("to", "b", False, False), ("self",)])
        self.assertEqual(self.short(one, two, send([], "a", "last", True), ("self", [])),
                         [("to", "a", False, False), ("to", "b", False, False), ("refused",)])
        self.assertEqual(self.short(one, send([], "", "try", True, "via")),
                         [("to", "a", False, False), ("via", "a", False, True)])
        give = ("give", [], "to", "try")
        self.assertEqual(self.short(give, one, give), [("to", None, False, False), ("to", "a", False, False)])


if __name__ == "__main__":
    unittest.main()
