"""The parts of a program: which can be left out, and which alternatives can be struck together."""

from itertools import combinations

from markedways.errors import BadLot, NoPart
from markedways.likeness import Comparison, Search
from markedways.packets import is_count, samples
from markedways.programs import Program, all_trees, allow, inner_trees, need_program
from markedways.rounds import under_one
from markedways.ways import Courses, Ground

MOST_PARTS = 60
MOST_ALTERNATIVES = 8


def is_path(thing):
    """Whether any value is a tuple of numbers from 0 on."""
    return isinstance(thing, tuple) and all([is_count(index) for index in thing])


def tree_at(tree, path):
    """The tree with this path within the tree, None if there is none."""
    for index in path:
        inner = inner_trees(tree)
        if index >= len(inner):
            return None
        tree = inner[index]
    return tree


def paths_in(tree, words):
    """The ascending list of the paths of all trees that stand directly in a tree of one of these words."""
    found = []
    for index, inner in enumerate(inner_trees(tree)):
        if tree[0] in words:
            found.append((index,))
        found.extend([(index,) + path for path in paths_in(inner, words)])
    return found


def swapped(tree, path, other):
    """The tree with the other one in the place of that with this path."""
    if len(path) == 0:
        return other
    at = path[0] + 1
    return tree[:at] + (swapped(tree[at], path[1:], other),) + tree[at + 1:]


def left_out(tree, path):
    """The tree without the part with this path."""
    around = tree_at(tree, path[:-1])
    at = path[-1] + 1
    kept = around[1:at] + around[at + 1:]
    return swapped(tree, path[:-1], under_one(around[0], kept, None))


def all_struck(tree, lot):
    """The tree in which the alternatives of the lot are struck."""
    for path in lot:
        tree = swapped(tree, path, ("drop",))
    return tree


def are_independent(lot):
    """Whether none of these ascending paths begins with another one."""
    return all([later[:len(path)] != path for path, later in zip(lot, lot[1:])])


def is_lot(program, thing):
    """Whether any value is a lot of the program."""
    if not isinstance(thing, tuple) or not all([is_path(path) for path in thing]):
        return False
    alternatives = paths_in(program.tree, ("choice",))
    if not all([path in alternatives for path in thing]):
        return False
    return list(thing) == sorted(set(thing)) and are_independent(thing)


class Model:
    """A program with which others are compared that have no numbers, sets and takes but those of this one."""

    def __init__(self, program):
        self.names = program.fields
        self.starts = samples(program.fields, program.numbers)
        self.courses = Courses(program, Ground(program.fields, all_trees(program.tree), self.starts))

    def is_alike(self, tree):
        """Whether the program with this tree is alike."""
        courses = Courses(Program(self.names, tree), self.courses.ground)
        return Search(Comparison(self.courses, courses, "alike"), self.starts).parted is None


def part_at(program, path):
    """The tree with this path within the tree of the program."""
    need_program(program, "program")
    found = tree_at(program.tree, path) if is_path(path) else None
    if found is None:
        raise NoPart(path)
    return found


def parts(program):
    """The ascending list of the paths of all trees in rows and choices."""
    need_program(program, "program")
    return paths_in(program.tree, ("row", "choice"))


def without(program, path):
    """The program without the part with this path."""
    need_program(program, "program")
    if not is_path(path) or path not in parts(program):
        raise NoPart(path)
    return Program(program.fields, left_out(program.tree, path))


def idle_parts(program):
    """The ascending list of the paths of the parts without which the program is alike."""
    paths = parts(program)
    allow(len(paths), "parts", MOST_PARTS)
    model = Model(program)
    return [path for path in paths if model.is_alike(left_out(program.tree, path))]


def struck(program, lot):
    """The program in which the alternatives of the lot are struck."""
    need_program(program, "program")
    if not is_lot(program, lot):
        raise BadLot("no lot of the program")
    return Program(program.fields, all_struck(program.tree, lot))


def idle_lots(program):
    """The greatest lots with which the struck program is alike, the longest first, then ascending."""
    need_program(program, "program")
    alternatives = paths_in(program.tree, ("choice",))
    allow(len(alternatives), "alternatives", MOST_ALTERNATIVES)
    model = Model(program)
    found = []
    for many in range(len(alternatives), -1, -1):
        # Lots of as many paths are not within each other.
        longer = list(found)
        for lot in combinations(alternatives, many):
            if not are_independent(lot) or any([all([path in other for path in lot]) for other in longer]):
                continue
            if model.is_alike(all_struck(program.tree, lot)):
                found.append(lot)
    return found
