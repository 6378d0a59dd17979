"""The errors of the package: WayError and its direct subclasses."""

# "Any value" of the document has at most so many levels. What lies deeper is kept as it is,
# so that no value, however deep, makes an error fail while it is made.
COPIED_LEVELS = 20


def copied(thing, levels=COPIED_LEVELS):
    """An equal value that later changes to the lists and dicts in the thing do not reach."""
    if levels < 1:
        return thing
    if isinstance(thing, list):
        return [copied(item, levels - 1) for item in thing]
    if isinstance(thing, tuple):
        return tuple([copied(item, levels - 1) for item in thing])
    if isinstance(thing, dict):
        return {key: copied(thing[key], levels - 1) for key in thing}
    return thing


class WayError(ValueError):
    """Any failure that the package reports."""


class BadFields(WayError):
    """A value is no list of fields."""


class BadNumbers(WayError):
    """A value is no list of numbers."""


class BadTree(WayError):
    """A value is no tree, or has other fields or more levels than it may have."""


class TooMany(WayError):
    """There are more of something than there may be."""

    def __init__(self, what, most):
        super().__init__(f"more than {most} {what}")
        self.what = copied(what)
        self.most = copied(most)


class BadProgram(WayError):
    """A parameter is no Program."""

    def __init__(self, part):
        super().__init__(f"no Program: {part}")
        self.part = copied(part)


class OtherFields(WayError):
    """A Program has other fields than what stands ahead of it."""


class BadTest(WayError):
    """A parameter is no Program the tree of which is a test."""

    def __init__(self, part):
        super().__init__(f"no Program the tree of which is a test: {part}")
        self.part = copied(part)


class BadPacket(WayError):
    """A value is no packet of the fields."""

    def __init__(self, packet):
        super().__init__("no packet of the fields")
        self.packet = copied(packet)


class BadMost(WayError):
    """A value is no number up to the bound of such numbers."""

    def __init__(self, most):
        super().__init__("no number up to the bound")
        self.most = copied(most)


class NoPlace(WayError):
    """A value is no place of the program."""

    def __init__(self, place):
        super().__init__("no place of the program")
        self.place = copied(place)


class BadWord(WayError):
    """A value is none of the words of tables."""

    def __init__(self, word):
        super().__init__("neither alike nor within")
        self.word = copied(word)


class BadTests(WayError):
    """A value is no list of tests, or one of its items is no test."""

    def __init__(self, at):
        super().__init__(f"no list of tests, at: {at}")
        self.at = copied(at)


class NoPart(WayError):
    """A value is no path of a tree or part of the program."""

    def __init__(self, path):
        super().__init__("no path in the program")
        self.path = copied(path)


class BadLot(WayError):
    """A value is no lot."""


class BadNet(WayError):
    """A value is no Net, or one of the parts of a net is wrong."""

    def __init__(self, part):
        super().__init__(f"no net, by its: {part}")
        self.part = copied(part)


class BadRule(WayError):
    """An item of a table is no rule."""

    def __init__(self, at):
        super().__init__(f"no rule, at: {at}")
        self.at = copied(at)


class BadDeed(WayError):
    """A value is no deed, or would not lead to a net."""

    def __init__(self, deed):
        super().__init__("no deed for this net")
        self.deed = copied(deed)


class NothingLeft(WayError):
    """No deed stands that could be taken back."""


class BadJournal(WayError):
    """An item of a journal is none, or is refused."""

    def __init__(self, at):
        super().__init__(f"no journal of this net, at: {at}")
        self.at = copied(at)


class BadText(WayError):
    """A value is no text of a tree or a program."""

    def __init__(self, line):
        super().__init__(f"no such text, in the line: {line}")
        self.line = copied(line)


class BadName(WayError):
    """A name means no program."""

    def __init__(self, name):
        super().__init__("no program has this name")
        self.name = copied(name)
