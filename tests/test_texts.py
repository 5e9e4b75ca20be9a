"""Points 3, 4 and 54 to 56: texts of houses and graphs."""

from onwardasks.errors import NoText
from onwardasks.graphs import Graph
from onwardasks.houses import House
from onwardasks.kinds import Kind
from onwardasks.texts import graph_text, house_text, read_graph, read_house
from tests.cases import Case
from tests.drawn import draw_graphs, draw_house, source
from tests.samples import ANYTHING, door, plain_kind, ring_house, room, send

EXAMPLE = """kind door
link to - room
own sign self
bar key
send to = last wrap *
kind room
own key value k
own lamp value on
own me self"""

EVERY_FORM = """kind a hidden
link x - a b
link y b
own k link x
own l self
own m value v
bar *
bar k l m n
tell w *
tell w k
self *
self m n
give x try *
give y last k l
send x = try bare *
send x k last wrap l m
send y = last bare k
kind b"""

# A name in the place of each word of the forms is a name, too: these words are no others.
WORDS_AS_NAMES = """kind bar
link kind bar
link link -
own hidden link link
own own value value
own self self
bar bar wrap
tell tell last
self self wrap
give link last last
send kind last try bare self wrap
send link bar last wrap own"""


def whole_house():
    """Return the house of the text EVERY_FORM."""
    rules = [("bar", []), ("bar", ["n", "m", "l", "k"]), ("tell", [], "w"), ("tell", ["k"], "w"), ("self", []),
             ("self", ["n", "m"]), ("give", [], "x", "try"), ("give", ["l", "k"], "y", "last"),
             ("send", [], "x", "", "try", False), ("send", ["m", "l"], "x", "k", "last", True),
             ("send", ["k"], "y", "", "last", False)]
    return House([Kind("b", {}, {}, []),
                  Kind("a", {"y": ["b"], "x": ["b", "", "a"]}, {"m": ("value", "v"), "k": ("link", "x"), "l": ("self",)},
                       rules, hidden=True)])


class TestHouseText(Case):
    def test_by_hand(self):
        self.assertEqual(house_text(House([room(), door()])), EXAMPLE)
        self.assertEqual(house_text(whole_house()), EVERY_FORM)
        self.assertEqual(house_text(House([plain_kind()])), "kind room")

    def test_and_back(self):
        for text in (EXAMPLE, EVERY_FORM, WORDS_AS_NAMES, "kind k", "kind k hidden", "kind hidden", "kind hidden hidden"):
            house = read_house(text)
            self.assertIs(type(house), House)
            self.assertEqual(house_text(house), text)
        self.assertEqual(read_house(EXAMPLE), House([door(), room()]))
        self.assertEqual(read_house(EVERY_FORM), whole_house())
        self.assertEqual(read_house("kind hidden"), House([Kind("hidden", {}, {}, [])]))

    def test_drawn(self):
        chance = source(61)
        for _ in range(150):
            house = draw_house(chance, kinds="klmn"[:chance.randint(1, 4)], names="pqr", most_rules=6)
            self.assertEqual(read_house(house_text(house)), house)

    def test_three_hundred_rules(self):
        rules = [send(["a"], "b", "try"), ("tell", ["b"], "v"), ("give", [], "to", "last")] * 100
        house = House([Kind(name, {"to": [name]}, {}, rules) for name in "klmn"])
        text = house_text(house)
        self.assertEqual(len(text.split("\n")), 4 * 302)
        self.assertEqual(read_house(text), house)
        more = text.replace("kind n", "bar a\nkind n")
        self.assert_error(NoText, 4 * 302 + 2, read_house, more)

    def test_by_keyword(self):
        house = House([door(), room()])
        self.assertEqual(house_text(house=house), EXAMPLE)
        self.assertEqual(read_house(text=EXAMPLE), house)


class TestReadHouse(Case):
    def assert_line(self, line, *texts):
        for text in texts:
            self.assert_error(NoText, line, read_house, text)

    def test_what_is_no_string(self):
        for wrong in [x for x in ANYTHING if not isinstance(x, str)] + [[EXAMPLE], b"kind room", ("kind room",)]:
            self.assert_line(0, wrong)

    def test_lines_without_a_form(self):
        """Each of these lines has no form, wherever it stands."""
        lines = [
            "", " ", "-", "*", "kind", "kind ", "kind  a", "kind a ", " kind a", "kind a  hidden", "kind a hide",
            "kind A", "Kind a", "KIND a", "kind a hidden hidden", "kind abcdefghi", "kind a1", "kind -", "kind *", "kind a *",
            "kind a\t", "kind\ta", "kind a\r", "link", "link a", "link a ", "link a  b", "link a - ", "link - a", "link a *",
            "link a =", "link a B", "link a b,c", "link A b", "link a --", "own", "own a", "own a self self", "own a value",
            "own a link", "own a value v w", "own a value -", "own a value V", "own a link -", "own a b", "own a b c",
            "own A self", "own a Self", "own a  self", "own * self", "own a bar", "bar", "bar ", "bar -", "bar a *", "bar * a",
            "bar * *", "bar a  b", "bar a B", "bar =", "bar **", "tell", "tell v", "tell *", "tell * *", "tell = a", "tell v ",
            "tell v a *", "tell V a", "self", "self ", "self - ", "self a *", "self  *", "give", "give x", "give x try",
            "give x last", "give x first *", "give x Try *", "give - try *", "give x try a *", "give x try  a", "give x try -",
            "give try *", "send", "send x", "send x =", "send x = try", "send x = try wrap", "send x = try wraps *",
            "send x = try true *", "send x = wrap try *", "send x - try wrap *", "send x * try wrap *", "send = = try wrap *",
            "send x == try wrap *", "send x K try wrap *", "send x k try Wrap *", "send x = first wrap *", "send x k Last bare p", "send x  try wrap *", "send x try wrap *",
            "send x = try wrap * *", "send x = try wrap a *", "send x = try wrap a ", "tells v *", "rule *", "a", "sender",
            "kind a hidden *", "link a b *", "own a self *", "#", "kind a # b", "bar a.b", "bar a,b", "bar a1", "bar a\\", "bar '*'"]
        for line in lines:
            self.assert_line(1, line, line + "\n", line + "\n" + EXAMPLE, line + "\n" + line)
            self.assert_line(10, EXAMPLE + "\n" + line, EXAMPLE + "\n" + line + "\n", EXAMPLE + "\n" + line + "\nkind zoo")
            parts = EXAMPLE.split("\n")
            self.assert_line(4, "\n".join(parts[:3] + [line] + parts[3:]))

    def test_lines_that_have_a_form_and_make_no_house(self):
        for text in ["link a b", "bar *", "own a self", "tell v *", "kind k\nkind k", "kind l\nkind k",
                     "kind k\nlink a b", "kind k\nlink a - -", "kind k\nlink a k -", "kind k\nlink a k\nlink a k",
                     "kind k\nlink b k\nlink a k", "kind k\nlink a -\nlink b -\nlink c -", "kind k\nlink a - k l m n",
                     "kind k\nown a link x", "kind k\nown b self\nown a self", "kind k\nown a self\nown a self",
                     "kind k\nown a self\nlink a k", "kind k\nbar *\nown a self", "kind k\nbar *\nlink a k",
                     "kind k\ngive x try *", "kind k\nsend x = try wrap *", "kind k\nbar b a", "kind k\nbar a a",
                     "kind k\nbar a b c d e", "bar *\nkind k", "kind a\nkind b\nkind c\nkind d\nkind e",
                     "kind k\nown a self\nown b self\nown c self\nown d self\nown e self\nown f self",
                     "kind k\nbar a b c d\nbar e f g", "kind k\nlink a l\nkind l\nlink a m"]:
            self.assert_line(text.count("\n") + 2, text)
            # A line without a form comes first.
            self.assert_line(text.count("\n") + 2, text + "\nkinds")
            self.assert_line(1, "\n" + text)

    def test_just_as_many_as_are_allowed(self):
        for text in ["kind k\nlink a - k\nlink b -", "kind a\nkind b\nkind c\nkind d", "kind k\nbar a b c d\nbar e f",
                     "kind k\nown a self\nown b self\nown c self\nown d self\nown e self\nbar f"]:
            self.assertEqual(house_text(read_house(text)), text)

    def test_lines_left_out_doubled_exchanged(self):
        """What is read is either the House of this very text, or an error for the line behind the last one."""
        for text in (EXAMPLE, EVERY_FORM, WORDS_AS_NAMES):
            lines = text.split("\n")
            read = 0
            for k in range(len(lines)):
                for changed in (lines[:k] + lines[k + 1:], lines[:k] + [lines[k]] + lines[k:],
                                lines[:k] + lines[k:k + 2][::-1] + lines[k + 2:], lines[k:] + lines[:k]):
                    one = "\n".join(changed)
                    try:
                        self.assertEqual(house_text(read_house(one)), one)
                        read += 1
                    except NoText as error:
                        self.assertEqual(error.what, len(changed) + 1)
            self.assertGreater(read, 0)
        # Rules may be left out, doubled and exchanged. Nothing else may stand in another order.
        self.assert_line(9, EXAMPLE.replace("kind door\n", ""))
        self.assert_line(11, EXAMPLE.replace("own sign self", "own sign self\nown sign self"))
        self.assert_line(10, EXAMPLE.replace("own key value k\nown lamp value on", "own lamp value on\nown key value k"))
        doubled = read_house(EXAMPLE.replace("bar key", "bar key\nbar key"))
        self.assertEqual(doubled["door"].rules()[:2], [("bar", ("key",))] * 2)

    def test_empty_lines_and_spaces(self):
        self.assert_line(1, "", "\n", "\n\n", "\n" + EXAMPLE, " " + EXAMPLE)
        self.assert_line(10, EXAMPLE + "\n", EXAMPLE + "\n\n")
        self.assert_line(9, EXAMPLE + " ")
        self.assert_line(2, EXAMPLE.replace(" - ", "  - "), EXAMPLE.replace("link", "Link"))
        self.assert_line(1, EXAMPLE.replace("\n", "\r\n"), EXAMPLE.upper(), EXAMPLE.replace(" ", "  "))


class TestGraphText(Case):
    def setUp(self):
        self.house = whole_house()
        self.graph = Graph(self.house, [("a", {"y": 1, "x": None}), ("b", {}), ("a", {"x": 2, "y": 1})])
        self.text = "a x - y 1\nb\na x 2 y 1"

    def test_by_hand(self):
        self.assertEqual(graph_text(self.graph), self.text)
        self.assertEqual(read_graph(self.house, self.text), self.graph)
        self.assertIs(type(read_graph(self.house, self.text)), Graph)
        self.assertEqual(graph_text(read_graph(self.house, "b")), "b")

    def test_drawn(self):
        chance = source(62)
        for _ in range(60):
            house = draw_house(chance, kinds="klm")
            for graph in draw_graphs(chance, house, 5, most=12):
                self.assertEqual(read_graph(house, graph_text(graph)), graph)

    def test_many_things(self):
        many = 5000
        graph = Graph(ring_house(), [("k", {"to": many - 1 - k}) for k in range(many)])
        text = graph_text(graph)
        self.assertEqual(text.split("\n")[0], "k to 4999")
        self.assertEqual(text.split("\n")[-1], "k to 0")
        self.assertEqual(read_graph(ring_house(), text), graph)

    def test_what_is_no_string(self):
        for wrong in [x for x in ANYTHING if not isinstance(x, str)] + [[self.text], b"b", ("b",)]:
            self.assert_error(NoText, 0, read_graph, self.house, wrong)

    def test_lines_without_a_form(self):
        lines = ["", " ", "A", "a ", " a", "a x", "a x 1 y", "a x  1", "a  x 1", "a x 1 ", "a x 01", "a x 00", "a x 001",
                 "a x 10000", "a x 00000", "a x +1", "a x -1", "a x --", "a x 1-", "a x x", "a x 1 y y", "a X 1", "a 1 x",
                 "a - x", "1", "-", "a x 1.", "a x 1e1", "a x 1_0", "a x *", "a x =", "a\tx 1", "a x\t1", "a x 1\r", "abcdefghi",
                 "a abcdefghi 1", "a x None", "a1", "a x 0x1", "a x \"\"", "a x 1, y 2"]
        for line in lines:
            for text, number in [(line, 1), (line + "\n" + self.text, 1), (self.text + "\n" + line, 4),
                                 ("b\n" + line + "\nb", 2), (line + "\n" + line, 1)]:
                self.assert_error(NoText, number, read_graph, self.house, text)

    def test_lines_that_have_a_form_and_make_no_graph(self):
        for text in ["c", "b x 0", "a x - y 0", "a x 9999 y 0", "a y 1 x -\nb", "a x - x - y 1\nb", "a x -\nb", "a y 1\nb",
                     "a x - y -", "a x - y 2\nb", "a x - y 1 z 1\nb", "b b 0 b 0", "a x 0 x 0", "kind kind 1"]:
            lines = text.count("\n") + 1
            self.assert_error(NoText, lines + 1, read_graph, self.house, text)
            self.assert_error(NoText, lines + 1, read_graph, self.house, text + "\n")
            self.assert_error(NoText, 1, read_graph, self.house, "\n" + text)

    def test_the_house_decides(self):
        self.assert_error(NoText, 4, read_graph, House([door(), room()]), self.text)

    def test_lines_left_out_doubled_exchanged(self):
        lines = self.text.split("\n")
        for changed, number in [(lines[1:], 3), (lines[:1], 2), (lines[:2], None), (lines + lines[:1], None),
                                (lines[::-1], None), ([lines[0], lines[2], lines[1]], 4), (lines[1:2] * 3, None)]:
            one = "\n".join(changed)
            if number is None:
                self.assertEqual(graph_text(read_graph(self.house, one)), one)
            else:
                self.assert_error(NoText, number, read_graph, self.house, one)

    def test_by_keyword(self):
        self.assertEqual(graph_text(graph=self.graph), self.text)
        self.assert_by_keyword(self.graph, read_graph, house=self.house, text=self.text)


if __name__ == "__main__":
    import unittest
    unittest.main()
