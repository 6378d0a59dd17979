"""A desk at which programs get names and are asked about, line by line."""

from markedways.errors import BadMost, BadName, BadPacket, BadTree, NothingLeft, TooMany
from markedways.likeness import beyond, parting
from markedways.packets import LETTERS, ascending_fields
from markedways.parts import idle_parts
from markedways.programs import Program
from markedways.rounds import most_marks
from markedways.texts import tree_of, tree_text
from markedways.ways import ways

MOST_NAME_LETTERS = 8
MOST_FIGURES = 12
NO_NAMES = ("none", "unknown")
# What must stand behind the first word of a line; lets are told apart before.
FORMS = {
    "undo": (),
    "show": ("NAME",),
    "names": (),
    "ways": ("NAME", "(PACKET)", "N"),
    "alike": ("NAME", "NAME"),
    "within": ("NAME", "NAME"),
    "most": ("NAME",),
    "idle": ("NAME",),
}


def is_name(word):
    """Whether the word may be the name of a program."""
    if not 1 <= len(word) <= MOST_NAME_LETTERS or word in NO_NAMES:
        return False
    return all([letter in LETTERS for letter in word])


def is_figures(word, most):
    """Whether the word is a number of at most so many figures, without leading zeros."""
    if not 1 <= len(word) <= most or not word.isascii() or not word.isdigit():
        return False
    return word == "0" or not word.startswith("0")


def is_packet_word(word):
    """Whether the word is that of a packet in parentheses."""
    if not word.startswith("(") or not word.endswith(")"):
        return False
    return all([is_figures(number, MOST_FIGURES) for number in word[1:-1].split(",")])


def has_form(word, form):
    """Whether the word is what the form asks for."""
    if form == "NAME":
        return is_name(word)
    return is_packet_word(word) if form == "(PACKET)" else is_figures(word, 1)


def is_line(words):
    """Whether the words, the first one being told apart, have one of the forms."""
    forms = FORMS.get(words[0])
    if forms is None or len(forms) != len(words) - 1:
        return False
    return all([has_form(word, form) for word, form in zip(words[1:], forms)])


def let_of(line):
    """The name and the tree of a let, None for any other line."""
    if not line.startswith("let "):
        return None
    name, _, text = line[4:].partition(" = ")
    tree = tree_of(text)
    return (name, tree) if is_name(name) and tree is not None else None


def read_packet(word):
    """The packet of a word that is one."""
    return tuple([int(number) for number in word[1:-1].split(",")])


def numbers_text(numbers, sign):
    """The numbers with the sign between them."""
    return sign.join([str(number) for number in numbers])


def packet_text(packet):
    """The packet in parentheses."""
    inner = numbers_text(packet, ",")
    return f"({inner})"


def way_text(way):
    """The packets of the way, one behind the other."""
    return " > ".join([packet_text(packet) for packet in way])


def verdict(found):
    """What is answered if this is what parts two programs, None if nothing does."""
    return "yes" if found is None else f"no: {packet_text(found[0])}: {way_text(found[1])}"


def listed(texts, sign):
    """The texts with the sign between them, or none."""
    return "none" if len(texts) == 0 else sign.join(texts)


class Desk:
    """Programs of the same fields with names, and the lets by which they got them."""

    def __init__(self, fields):
        self._fields = ascending_fields(fields)
        self._programs = {}
        # For each let that stands, its name and the program that had it before, if any.
        self._lets = []

    def say(self, line):
        """The answer to any value as a line."""
        try:
            return self._answer(line)
        except BadTree:
            return "error BadTree"
        except TooMany:
            return "error TooMany"
        except BadName:
            return "error BadName"
        except BadPacket:
            return "error BadPacket"
        except BadMost:
            return "error BadMost"
        except NothingLeft:
            return "error NothingLeft"

    def _answer(self, line):
        if not isinstance(line, str):
            return "unknown"
        let = let_of(line)
        if let is not None:
            return self._let(let[0], let[1])
        words = line.split(" ")
        if not is_line(words):
            return "unknown"
        if words[0] == "undo":
            return self._undo()
        if words[0] == "names":
            return listed(sorted(self._programs), " ")
        return self._told(words[0], self._named(words[1]), words[2:])

    def _let(self, name, tree):
        program = Program(self._fields, tree)
        self._lets.append((name, self._programs.get(name)))
        self._programs[name] = program
        return "ok"

    def _undo(self):
        if len(self._lets) == 0:
            raise NothingLeft("no let stands")
        name, before = self._lets.pop()
        if before is None:
            del self._programs[name]
        else:
            self._programs[name] = before
        return "ok"

    def _named(self, name):
        if name not in self._programs:
            raise BadName(name)
        return self._programs[name]

    def _told(self, word, program, rest):
        """What is told of the program at this word, rest being the words behind its name."""
        if word == "show":
            return tree_text(program.tree)
        if word == "ways":
            return listed([way_text(way) for way in ways(program, read_packet(rest[0]), int(rest[1]))], "; ")
        if word == "alike":
            return verdict(parting(program, self._named(rest[0])))
        if word == "within":
            return verdict(beyond(program, self._named(rest[0])))
        if word == "most":
            return self._most(program)
        return listed([numbers_text(path, ".") for path in idle_parts(program)], " ")

    def _most(self, program):
        most = most_marks(program, Program(self._fields, ("pass",)))
        if most is None:
            return "endless"
        return "none" if most == -1 else str(most)
