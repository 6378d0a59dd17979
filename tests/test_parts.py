import copy
import random
import unittest

from markedways.errors import BadLot, BadProgram, NoPart
from markedways.parts import part_at, parts, struck, without
from markedways.programs import Program
from oracle import a_program, with_places
from samplers import DROP, MARK, PASS, at, choice, counter, loop, odometer, pair, put, row, six_marks, solo, take, walk
from test_programs import raised
from test_trees import NEARLY
from values import no_programs, odd_values

A, B = at("a", 1), put("b", 2)
INNER = ("not", choice(A, row(at("b", 3), ("not", A))))
TREE = row(choice(A, INNER, B), loop(choice(MARK, row(B, loop(A)))), take("a", "b"))
TREES = {
    (): TREE, (0,): TREE[1], (0, 0): A, (0, 1): INNER, (0, 1, 0): INNER[1], (0, 1, 0, 0): A, (0, 1, 0, 1): INNER[1][2],
    (0, 1, 0, 1, 0): at("b", 3), (0, 1, 0, 1, 1): ("not", A), (0, 1, 0, 1, 1, 0): A, (0, 2): B, (1,): TREE[2],
    (1, 0): TREE[2][1], (1, 0, 0): MARK, (1, 0, 1): TREE[2][1][2], (1, 0, 1, 0): B, (1, 0, 1, 1): loop(A),
    (1, 0, 1, 1, 0): A, (2,): take("a", "b"),
}
PARTS = [(0,), (0, 0), (0, 1), (0, 1, 0, 0), (0, 1, 0, 1), (0, 1, 0, 1, 0), (0, 1, 0, 1, 1), (0, 2), (1,), (1, 0, 0),
         (1, 0, 1), (1, 0, 1, 0), (1, 0, 1, 1), (2,)]
ALTERNATIVES = [(0, 0), (0, 1), (0, 1, 0, 0), (0, 1, 0, 1), (0, 2), (1, 0, 0), (1, 0, 1)]
NO_PATHS = [[0], [], (True,), (False,), (0, False), (-1,), (0, -1), (3,), (10 ** 99,), (0, 3), (0, 0, 0), (2, 0),
            (2, 1),
            (0, 1, 1), (1, 1), (1, 0, 0, 0), (0, 1, 0, 1, 1, 0, 0), (None,), ("0",), (0, "0"), ((0,),), (0, (0,)),
            (0, [0]), "0", "", 0, 1, None, True, {0: 0}, (0, None), (0, 1, 0, 1, 0, 1)]


def all_paths(tree):
    """Point 80: each path with its tree."""
    yield (), tree
    if tree[0] in ("row", "choice", "loop", "not"):
        for index, inner in enumerate(tree[1:]):
            for path, found in all_paths(inner):
                yield (index, *path), found


def rebuilt(tree, path, work):
    """The tree with what work makes of the inner trees around the last index of the path."""
    if len(path) == 1:
        inner = list(tree[1:])
        work(inner, path[0])
        return inner[0] if len(inner) == 1 and tree[0] in ("row", "choice") else (tree[0], *inner)
    inner = list(tree[1:])
    inner[path[0]] = rebuilt(inner[path[0]], path[1:], work)
    return (tree[0], *inner)


def lose(inner, index):
    del inner[index]


def strike(inner, index):
    inner[index] = ("drop",)


class PartAt(unittest.TestCase):
    def test_each_path(self):
        program = pair(TREE)
        self.assertEqual(dict(all_paths(TREE)), TREES)
        for path, tree in TREES.items():
            with self.subTest(path):
                self.assertEqual(part_at(program, path), tree)

    def test_trees_of_one_level(self):
        for tree in (PASS, DROP, MARK, A, B, take("a", "b")):
            self.assertEqual(part_at(pair(tree), ()), tree)
            for path in ((0,), (1,), (0, 0)):
                self.assertEqual(raised(NoPart, part_at, pair(tree), path).path, path)

    def test_loops_and_nots(self):
        program = solo(loop(loop(("not", ("not", A)))))
        self.assertEqual(part_at(program, (0, 0, 0, 0)), A)
        for path in ((1,), (0, 1), (0, 0, 1), (0, 0, 0, 1), (0, 0, 0, 0, 0)):
            self.assertEqual(raised(NoPart, part_at, program, path).path, path)

    def test_no_paths(self):
        others = [thing for thing in odd_values() + NEARLY if thing not in ((), (0,))]
        for path in NO_PATHS + others:
            with self.subTest(path):
                self.assertEqual(raised(NoPart, part_at, pair(TREE), path).path, path)

    def test_many_trees(self):
        program = solo(row(*[at("a", number % 8) for number in range(3000)]))
        self.assertEqual(part_at(program, (2999,)), at("a", 7))
        raised(NoPart, part_at, program, (3000,))
        program = solo(("loop", row(PASS, ("loop", row(PASS, ("loop", row(PASS, ("loop", row(PASS, loop(A))))))))))
        self.assertEqual(part_at(program, (0, 1, 0, 1, 0, 1, 0, 1, 0)), A)


class Parts(unittest.TestCase):
    def test_those_in_rows_and_choices_alone(self):
        self.assertEqual(parts(pair(TREE)), PARTS)
        for tree, wanted in ((PASS, []), (loop(loop(A)), []), (("not", A), []), (row(A, B), [(0,), (1,)]),
                             (loop(choice(A, B, A)), [(0, 0), (0, 1), (0, 2)]),
                             (("not", row(A, ("not", choice(A, A)))), [(0, 0), (0, 1), (0, 1, 0, 0), (0, 1, 0, 1)])):
            with self.subTest(tree):
                self.assertEqual(parts(pair(tree)), wanted)

    def test_ascending_with_ten_and_more(self):
        found = parts(solo(row(*[choice(A, A)] * 12)))
        self.assertEqual(found, sorted(found))
        self.assertEqual(len(found), 36)
        self.assertEqual(found[-1], (11, 1))

    def test_as_the_words_say(self):
        chance = random.Random(801)
        for _ in range(200):
            program = a_program(chance, ["a", "b"], [0, 1, 5], 5)
            paths = dict(all_paths(program.tree))
            wanted = sorted(path for path in paths if path and paths[path[:-1]][0] in ("row", "choice"))
            self.assertEqual(parts(program), wanted)
            for path, tree in paths.items():
                self.assertEqual(part_at(program, path), tree)

    def test_a_new_list_each_time(self):
        program = pair(TREE)
        parts(program).clear()
        self.assertEqual(parts(program), PARTS)
        self.assertIsInstance(parts(program), list)


class Without(unittest.TestCase):
    def test_three_and_more(self):
        for word in ("row", "choice"):
            program = pair((word, A, B, MARK))
            self.assertEqual(without(program, (0,)), pair((word, B, MARK)))
            self.assertEqual(without(program, (1,)), pair((word, A, MARK)))
            self.assertEqual(without(program, (2,)), pair((word, A, B)))

    def test_one_of_two(self):
        for word in ("row", "choice"):
            self.assertEqual(without(pair((word, A, B)), (0,)), pair(B))
            self.assertEqual(without(pair((word, A, B)), (1,)), pair(A))
            self.assertEqual(without(pair((word, A, (word, A, B))), (0,)), pair((word, A, B)))
            self.assertEqual(without(pair((word, MARK, (word, A, B), MARK)), (1, 0)), pair((word, MARK, B, MARK)))
            # What is left stands there as it is, also a row in a row and a choice in a choice.
            self.assertEqual(without(pair((word, (word, A, (word, B, A)), B)), (0, 0)), pair((word, (word, B, A), B)))
            self.assertEqual(without(pair((word, MARK, ("loop", (word, A, MARK)))), (1, 0, 0)),
                             pair((word, MARK, loop(MARK))))
        self.assertEqual(without(pair(row(choice(A, row(A, B)), MARK)), (0, 0)), pair(row(row(A, B), MARK)))
        self.assertEqual(without(pair(choice(row(A, choice(A, B)), MARK)), (0, 0)), pair(choice(choice(A, B), MARK)))

    def test_within_tests_and_beneath_not(self):
        self.assertEqual(without(pair(TREE), (0, 1, 0, 0)).tree[1][2], ("not", INNER[1][2]))
        self.assertEqual(without(pair(TREE), (0, 1, 0, 1, 0)).tree[1][2], ("not", choice(A, ("not", A))))
        self.assertEqual(without(pair(TREE), (0, 1, 0, 1, 1)).tree[1][2], ("not", choice(A, at("b", 3))))

    def test_each_part(self):
        chance = random.Random(802)
        for _ in range(150):
            program = a_program(chance, ["a", "b"], [0, 1, 5], 5)
            for path in parts(program):
                found = without(program, path)
                self.assertIsInstance(found, Program)
                self.assertEqual(found, Program(("a", "b"), rebuilt(program.tree, path, lose)))
                self.assertEqual(found.numbers, Program(("a", "b"), found.tree).numbers)
                self.assertEqual(found.marks, with_places(found.tree)[1])

    def test_no_parts(self):
        program = pair(TREE)
        for path in NO_PATHS + odd_values() + sorted(set(TREES) - set(PARTS)):
            with self.subTest(path):
                self.assertEqual(raised(NoPart, without, program, path).path, path)
        for tree in (PASS, loop(A), ("not", A)):
            for path in ((), (0,)):
                self.assertEqual(raised(NoPart, without, pair(tree), path).path, path)

    def test_the_program_stays(self):
        program = pair(TREE)
        for path in PARTS:
            without(program, path)
        self.assertEqual(program, pair(TREE))


class Struck(unittest.TestCase):
    def test_drop_stands_in_their_places(self):
        program = pair(TREE)
        for path in ALTERNATIVES:
            self.assertEqual(struck(program, (path,)), pair(rebuilt(TREE, path, strike)))
        found = struck(program, ((0, 1, 0, 0), (0, 2), (1, 0, 1)))
        inner = ("not", choice(DROP, INNER[1][2]))
        self.assertEqual(found.tree, row(choice(A, inner, DROP), loop(choice(MARK, DROP)), take("a", "b")))
        self.assertEqual(struck(pair(choice(A, B)), ((0,), (1,))), pair(choice(DROP, DROP)))

    def test_no_alternative_at_all(self):
        for program in (pair(TREE), pair(PASS), walk(), counter(3), six_marks(), odometer(2)):
            self.assertEqual(struck(program, ()), program)

    def test_alternatives_in_alternatives(self):
        program = pair(choice(choice(A, choice(A, B)), B))
        self.assertEqual(struck(program, ((0, 0), (0, 1, 1), (1,))), pair(choice(choice(DROP, choice(A, DROP)), DROP)))
        self.assertEqual(struck(program, ((0, 1), (1,))), pair(choice(choice(A, DROP), DROP)))
        for lot in (((0,), (0, 0)), ((0,), (0, 1, 1)), ((0, 1), (0, 1, 0), (1,)), ((0, 0), (0, 1), (0, 1, 1))):
            with self.subTest(lot):
                raised(BadLot, struck, program, lot)

    def test_no_lots(self):
        program = pair(TREE)
        for lot in [thing for thing in odd_values() if thing != ()] + [
                [], [(0, 0)], ([0, 0],), ((0, 0), [0, 2]), ((0, 2), (0, 0)), ((0, 0), (0, 0)),
                ((0, 0), (0, 1), (0, 1, 0, 0)),
                ((0,),), ((1, 0, 1, 0),), ((0, 1, 0, 1, 0),), ((1, 0),), ((),), (0, 0), ((0, 3),), ((0, True),),
                ((0, 0), None), ((0, 0), 2), ((0, -1),), ((False, 0),), ((0, 0), "2"), {(0, 0): True}, "", ((0, 0, 0),),
                ((0, 0), ((0, 2),)), ((1, 0, 1), (0, 0))]:
            with self.subTest(lot):
                raised(BadLot, struck, program, lot)

    def test_each_lot_of_two(self):
        program = pair(TREE)
        for one in ALTERNATIVES:
            for other in ALTERNATIVES:
                if one < other and other[:len(one)] != one:
                    wanted = rebuilt(rebuilt(TREE, other, strike), one, strike)
                    self.assertEqual(struck(program, (one, other)), pair(wanted))
                else:
                    raised(BadLot, struck, program, (one, other))


class WrongPrograms(unittest.TestCase):
    def test_ahead_of_everything_else(self):
        for thing in no_programs():
            for work in (part_at, without, struck):
                for other in ((0,), None, ((0,),), [7]):
                    self.assertEqual(raised(BadProgram, work, thing, other).part, "program")
            self.assertEqual(raised(BadProgram, parts, thing).part, "program")

    def test_what_is_passed_stays(self):
        path = [0, [1]]
        kept = copy.deepcopy(path)
        error = raised(NoPart, part_at, pair(TREE), path)
        path[1].append(2)
        self.assertEqual(error.path, kept)


if __name__ == "__main__":
    unittest.main()
