"""The errors of the program.

Each of them is a direct subclass of AskError. The attribute what tells what
is wrong; NoRow alone has none. The message shows what only where the program
itself makes it: an argument may be anything, also a number that is too long
to be written.
"""


class AskError(ValueError):
    """The base class of all errors of this program."""


class BadKind(AskError):
    """A part of a kind is not valid; what is "name", "links", "own", "rules" or "hidden"."""

    def __init__(self, part):
        AskError.__init__(self, f"the {part} of the kind is not valid")
        self.what = part


class BadHouse(AskError):
    """The kinds make no house; what is the index of the kind at fault, -1 or -2."""

    def __init__(self, index):
        AskError.__init__(self, f"the kinds make no house: {index}")
        self.what = index


class BadGraph(AskError):
    """The things make no graph; what is the index of the thing at fault, or -1."""

    def __init__(self, index):
        AskError.__init__(self, f"the things make no graph: {index}")
        self.what = index


class BadPanel(AskError):
    """An argument of a panel is not a house; what is its place, 0 or 1."""

    def __init__(self, place):
        AskError.__init__(self, f"argument {place} of the panel is not a house")
        self.what = place


class BadRow(AskError):
    """There is no fitting row at a place; what is this place."""

    def __init__(self, place):
        AskError.__init__(self, f"there is no fitting row at this place: {place}")
        self.what = place


class BadLink(AskError):
    """A link cannot be set; what is the link that was passed."""

    def __init__(self, link):
        AskError.__init__(self, "the link cannot be set like this")
        self.what = link


class NoKind(AskError):
    """There is no such kind; what is the argument."""

    def __init__(self, kind):
        AskError.__init__(self, "there is no such kind")
        self.what = kind


class NoName(AskError):
    """This is not a name that can stand here; what is the argument."""

    def __init__(self, name):
        AskError.__init__(self, "this is not a name that can stand here")
        self.what = name


class NoThing(AskError):
    """There is no thing with this index; what is the argument."""

    def __init__(self, index):
        AskError.__init__(self, "there is no thing with this index")
        self.what = index


class NoLink(AskError):
    """The kind has no such link; what is the argument."""

    def __init__(self, link):
        AskError.__init__(self, "the kind has no such link")
        self.what = link


class NoPath(AskError):
    """A path leads nowhere; what is the index of the link at fault, or -1."""

    def __init__(self, index):
        AskError.__init__(self, f"the path leads nowhere: {index}")
        self.what = index


class NoRow(AskError):
    """There is no such row."""

    def __init__(self):
        AskError.__init__(self, "there is no such row")


class NoRule(AskError):
    """A lot names no rule of the house; what is the index in the lot, or -1."""

    def __init__(self, index):
        AskError.__init__(self, f"the lot names no rule of the house: {index}")
        self.what = index


class NoText(AskError):
    """The text stands for nothing; what is the number of the line at fault."""

    def __init__(self, line):
        AskError.__init__(self, f"the text cannot be read: line {line}")
        self.what = line


class NotLeast(AskError):
    """There is no proof for a lot; what is the lot that is the reason."""

    def __init__(self, lot):
        AskError.__init__(self, "the lot is not a least one that serves")
        self.what = lot


class TooMany(AskError):
    """A list grows too long; what is the greatest number that is allowed."""

    def __init__(self, many):
        AskError.__init__(self, f"there are more than {many}")
        self.what = many


class Unlike(AskError):
    """Two houses differ in a kind, its links or choices; what is the name of the kind."""

    def __init__(self, kind):
        AskError.__init__(self, f"the houses differ in the kind {kind}")
        self.what = kind


class Bare(AskError):
    """A thing may hand out the thing behind its link; what is the column."""

    def __init__(self, column):
        AskError.__init__(self, f"the thing behind the link may get out at the column '{column}'")
        self.what = column


class Refused(AskError):
    """An ask was refused; what is the name, route the asks that led there."""

    def __init__(self, name, route):
        AskError.__init__(self, f"the name '{name}' was refused")
        self.what = name
        self.route = route


class Endless(AskError):
    """An ask is endless; what is the name."""

    def __init__(self, name):
        AskError.__init__(self, f"the ask of '{name}' never ends")
        self.what = name
