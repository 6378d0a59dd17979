"""Trees, tests and programs, and the packets at which a program ends."""

from markedways.errors import BadProgram, BadTest, BadTree, OtherFields, TooMany
from markedways.packets import Crowds, MOST_NUMBERS, ascending_fields, is_count, is_field, need_packet

MOST_LEVELS = 12
MOST_TREES = 4000
MOST_MARKS = 6
TEST_WORDS = ("pass", "drop", "is", "row", "choice", "not")
TREE_WORDS = ("pass", "drop", "mark", "is", "set", "take", "row", "choice", "loop", "not")


def is_tree(thing):
    """Whether any value is a tree."""
    return is_made_of(thing, TREE_WORDS, MOST_LEVELS)


def is_test(thing):
    """Whether any value is a test."""
    return is_made_of(thing, TEST_WORDS, MOST_LEVELS)


def is_made_of(thing, words, levels):
    """Whether any value is a tree of these words, with at most so many levels."""
    if levels < 1 or not isinstance(thing, tuple) or len(thing) == 0:
        return False
    word = thing[0]
    if word not in words:
        return False
    if word in ("pass", "drop", "mark"):
        return len(thing) == 1
    if word in ("is", "set"):
        return len(thing) == 3 and is_field(thing[1]) and is_count(thing[2])
    if word == "take":
        return len(thing) == 3 and is_field(thing[1]) and is_field(thing[2]) and thing[1] != thing[2]
    if word in ("loop", "not"):
        inner_words = TEST_WORDS if word == "not" else words
        return len(thing) == 2 and is_made_of(thing[1], inner_words, levels - 1)
    return len(thing) >= 3 and all([is_made_of(part, words, levels - 1) for part in thing[1:]])


def inner_trees(tree):
    """The trees directly within a tree, from left to right."""
    return tree[1:] if tree[0] in ("row", "choice", "loop", "not") else ()


def all_trees(tree):
    """The tree and all trees within it, from left to right."""
    found = [tree]
    for part in inner_trees(tree):
        found.extend(all_trees(part))
    return found


def own_fields(tree):
    """The fields that a tree without inner trees has."""
    if tree[0] in ("is", "set"):
        return (tree[1],)
    return tree[1:] if tree[0] == "take" else ()


def has_fields(fields, trees):
    """Whether these trees, inner trees not counted, have no other fields than these."""
    return all([field in fields for tree in trees for field in own_fields(tree)])


def named_numbers(trees):
    """The numbers that these trees name, inner trees not counted, as an ascending tuple."""
    return tuple(sorted(set([tree[2] for tree in trees if tree[0] in ("is", "set")])))


def allow(many, what, most):
    """TooMany if there are more than so many."""
    if many > most:
        raise TooMany(what, most)


def satisfies(fields, test, packet):
    """Whether a packet of these ascending fields satisfies the test."""
    word = test[0]
    if word == "is":
        return packet[fields.index(test[1])] == test[2]
    if word == "not":
        return not satisfies(fields, test[1], packet)
    if word == "row":
        return all([satisfies(fields, part, packet) for part in test[1:]])
    if word == "choice":
        return any([satisfies(fields, part, packet) for part in test[1:]])
    return word == "pass"


def satisfying(crowds, test):
    """The crowd of all packets that satisfy the test."""
    word = test[0]
    if word == "is":
        return crowds.with_number(test[1], test[2])
    if word == "not":
        return crowds.full & ~satisfying(crowds, test[1])
    if word == "row":
        common = crowds.full
        for part in test[1:]:
            common = common & satisfying(crowds, part)
        return common
    if word == "choice":
        united = 0
        for part in test[1:]:
            united = united | satisfying(crowds, part)
        return united
    return crowds.full if word == "pass" else 0


class Flow:
    """A tree that a crowd flows through, marks being passed.

    Each tree remembers which packets have come to it: what they lead to has flowed on from here
    already. So a packet is moved by a tree once, however deep the loops lie in each other.
    """

    def __init__(self, tree, crowds):
        self.shape = tree
        self.crowds = crowds
        self.seen = 0
        is_gate = tree[0] in ("pass", "drop", "is", "not")
        self.gate = satisfying(crowds, tree) if is_gate else crowds.full
        self.inner = [] if is_gate else [Flow(part, crowds) for part in inner_trees(tree)]

    def after(self, crowd):
        """The packets behind the tree that those of the crowd lead to that come to it newly."""
        fresh = self._newly(crowd)
        if fresh == 0:
            return 0
        word = self.shape[0]
        if word == "row":
            return self._after_row(fresh)
        if word == "choice":
            return self._after_choice(fresh)
        if word == "loop":
            return self._after_loop(fresh)
        if word == "set":
            return self.crowds.after_set(fresh, self.shape[1], self.shape[2])
        if word == "take":
            return self.crowds.after_take(fresh, self.shape[1], self.shape[2])
        return fresh & self.gate

    def _newly(self, crowd):
        fresh = crowd & ~self.seen
        self.seen = self.seen | fresh
        return fresh

    def _after_row(self, fresh):
        for part in self.inner:
            fresh = part.after(fresh)
        return fresh

    def _after_choice(self, fresh):
        found = 0
        for part in self.inner:
            found = found | part.after(fresh)
        return found

    def _after_loop(self, fresh):
        found = 0
        while fresh != 0:
            found = found | fresh
            fresh = self._newly(self.inner[0].after(fresh))
        return found


def spliced(word, one, other):
    """The Program of both trees under this word; inner trees stand for a tree of this word."""
    need_fields(one.fields, other)
    return Program(one.fields, (word,) + under(word, one.tree) + under(word, other.tree))


def under(word, tree):
    """What stands for the tree in a longer tree of this word."""
    return tree[1:] if tree[0] == word else (tree,)


class Program:
    """Fields and a tree of them."""

    def __init__(self, fields, tree):
        self._fields = ascending_fields(fields)
        if not is_tree(tree):
            raise BadTree("no tree")
        trees = all_trees(tree)
        if not has_fields(self._fields, trees):
            raise BadTree("a tree of other fields")
        self._tree = tree
        self._marks = len([part for part in trees if part[0] == "mark"])
        self._numbers = named_numbers(trees)
        allow(len(trees), "trees", MOST_TREES)
        allow(self._marks, "marks", MOST_MARKS)
        allow(len(self._numbers), "numbers", MOST_NUMBERS)

    @property
    def fields(self):
        """The fields, an ascending tuple."""
        return self._fields

    @property
    def numbers(self):
        """The numbers that the program names, an ascending tuple."""
        return self._numbers

    @property
    def tree(self):
        """The tree."""
        return self._tree

    @property
    def marks(self):
        """How many marks the tree has."""
        return self._marks

    def __eq__(self, other):
        return isinstance(other, Program) and self._fields == other._fields and self._tree == other._tree

    def __add__(self, other):
        if not isinstance(other, Program):
            return NotImplemented
        return spliced("choice", self, other)

    def __rshift__(self, other):
        if not isinstance(other, Program):
            return NotImplemented
        return spliced("row", self, other)

    def __invert__(self):
        if not is_test(self._tree):
            raise BadTest("program")
        return Program(self._fields, ("not", self._tree))

    def loop(self):
        """The program the tree of which is the loop of this one."""
        return Program(self._fields, ("loop", self._tree))

    def __call__(self, packet):
        """The ascending list of the ends of all courses from this packet, each once."""
        need_packet(self._fields, packet)
        crowds = Crowds(self._fields, sorted(set(self._numbers + packet)))
        flow = Flow(self._tree, crowds)
        return crowds.packets(flow.after(crowds.of_packet(packet)))

    def holds(self, packet):
        """Whether the packet satisfies the tree, a test."""
        if not is_test(self._tree):
            raise BadTest("program")
        need_packet(self._fields, packet)
        return satisfies(self._fields, self._tree, packet)


def need_program(thing, part):
    """BadProgram, with the name of the parameter, for any value that is no Program."""
    if not isinstance(thing, Program):
        raise BadProgram(part)


def need_test(thing, part):
    """BadTest, with the name of the parameter, for any value that is no Program of a test."""
    if not isinstance(thing, Program) or not is_test(thing.tree):
        raise BadTest(part)


def need_fields(fields, program):
    """OtherFields for a Program that has other fields than these."""
    if program.fields != fields:
        raise OtherFields("the program has other fields than what stands ahead of it")


def joint_numbers(programs):
    """The numbers that the Programs name together, ascending; TooMany if they are too many."""
    numbers = sorted(set([number for program in programs for number in program.numbers]))
    allow(len(numbers), "numbers", MOST_NUMBERS)
    return numbers
