import itertools
import random
import unittest

from markedways.errors import BadProgram, TooMany, WayError
from markedways.likeness import alike
from markedways.parts import idle_lots, idle_parts, parts, struck, without
from markedways.programs import Program
from oracle import a_program
from samplers import (DROP, MARK, PASS, at, choice, counter, loop, odometer, pair, put, row, six_marks, solo, take,
                      trio,
                      varied, walk)
from test_parts import all_paths
from test_programs import raised
from values import no_programs

A, B, C = row(at("a", 1), MARK), row(put("a", 2), MARK), row(MARK, take("a", "b"))
NO_A = ("not", at("a", 1))


def alternatives(program):
    paths = dict(all_paths(program.tree))
    return sorted(path for path in paths if path and paths[path[:-1]][0] == "choice")


def all_lots(program):
    """Point 80: each ascending tuple of paths of alternatives, none of which begins with another one."""
    paths = alternatives(program)
    for many in range(len(paths) + 1):
        for lot in itertools.combinations(paths, many):
            if not any(one != other and other[:len(one)] == one for one in lot for other in lot):
                yield lot


def greatest_lots(program):
    found = [lot for lot in all_lots(program) if alike(program, struck(program, lot))]
    greatest = [lot for lot in found if not any(set(lot) < set(other) for other in found)]
    return sorted(greatest, key=lambda lot: (-len(lot), lot))


class IdleParts(unittest.TestCase):
    def test_what_never_matters(self):
        for tree, wanted in (
                (row(A, PASS), [(1,)]), (row(PASS, A), [(0,)]), (row(PASS, PASS), [(0,), (1,)]),
                (row(at("a", 1), at("a", 1), MARK), [(0,), (1,)]), (row(at("a", 1), MARK), []),
                (choice(A, DROP), [(1,)]), (choice(DROP, B), [(0,)]), (choice(DROP, DROP), [(0,), (1,)]),
                (choice(A, A), [(0,), (1,)]), (choice(A, B, A), [(0,), (2,)]), (choice(A, B), []),
                (choice(row(MARK, MARK), row(MARK, MARK)), [(0,), (1,)]),
                (row(put("a", 1), at("a", 1), MARK), [(1,)]), (row(put("a", 2), put("a", 1)), [(0,)]),
                (row(at("a", 2), put("a", 2)), [(1,)]), (row(MARK, MARK), []), (row(A, loop(DROP), B), [(1,)]),
                (loop(choice(PASS, MARK)), [(0,)]), (row(loop(MARK), loop(MARK)), [(0,), (1,)]),
                (choice(loop(MARK), MARK, PASS), [(1,), (2,)]), (row(A, ("not", DROP)), [(1,)])):
            with self.subTest(tree):
                found = [path for path in idle_parts(pair(tree)) if len(path) == 1 or tree[0] == "loop"]
                self.assertEqual([path[-1:] for path in found], wanted)

    def test_parts_of_tests(self):
        self.assertEqual(idle_parts(solo(row(("not", row(at("a", 1), PASS)), MARK))), [(0, 0, 1)])
        self.assertEqual(idle_parts(solo(("not", choice(at("a", 1), DROP, at("a", 1))))), [(0, 0), (0, 1), (0, 2)])
        self.assertEqual(idle_parts(solo(row(choice(at("a", 1), at("a", 2)), at("a", 1)))), [(0,), (0, 1)])
        self.assertEqual(idle_parts(solo(choice(at("a", 1), NO_A))), [])
        self.assertEqual(idle_parts(solo(choice(PASS, at("a", 1)))), [(1,)])

    def test_programs_without_parts(self):
        for tree in (PASS, MARK, loop(MARK), ("not", at("a", 1)), loop(loop(put("a", 1)))):
            self.assertEqual(idle_parts(solo(tree)), [])

    def test_numbers_that_no_other_part_names(self):
        self.assertEqual(idle_parts(solo(choice(at("a", 1), at("a", 2)))), [])
        self.assertEqual(idle_parts(solo(row(("not", at("a", 1)), ("not", at("a", 2))))), [])
        self.assertEqual(idle_parts(trio(choice(take("a", "b"), take("a", "c")))), [])
        self.assertEqual(idle_parts(trio(choice(row(take("b", "c"), take("a", "b")),
                                                row(take("a", "c"), take("b", "c")),
                                                row(take("b", "c"), put("b", 1), take("b", "c"), take("a", "c"))))),
                         [(0,), (1,), (2,), (2, 0), (2, 1)])

    def test_as_the_words_say(self):
        chance = random.Random(803)
        counts = {True: 0, False: 0}
        for _ in range(120):
            fields = ["a", "b", "c"][:chance.choice((1, 2, 2, 3))]
            program = a_program(chance, fields, [0, 1, 5], chance.choice((3, 4, 5)))
            try:
                program = Program(fields, varied(chance, program.tree, "a", 1))
            except WayError:
                pass
            if len(parts(program)) <= 30:
                found = idle_parts(program)
                self.assertEqual(found, [path for path in parts(program) if alike(program, without(program, path))])
                counts[True] += len(found)
                counts[False] += len(parts(program)) - len(found)
        self.assertGreater(min(counts.values()), 150)

    def test_up_to_sixty_parts(self):
        program = solo(row(*[at("a", 1)] * 60))
        self.assertEqual(idle_parts(program), [(index,) for index in range(60)])
        for tree in (row(*[at("a", 1)] * 61), ("not", row(*[at("a", 1)] * 61)), choice(*[DROP] * 61),
                     loop(choice(row(*[MARK] * 3), *[DROP] * 58))):
            error = raised(TooMany, idle_parts, solo(tree))
            self.assertEqual((error.what, error.most), ("parts", 60))
        self.assertEqual(idle_parts(solo(loop(choice(row(*[MARK] * 3), *[DROP] * 56)))),
                         [(0, index) for index in range(1, 57)])

    def test_greater_programs(self):
        found = idle_parts(odometer(4))
        self.assertEqual(found, [path for path in parts(odometer(4)) if alike(odometer(4), without(odometer(4), path))])
        self.assertEqual(idle_parts(six_marks()),
                         [path for path in parts(six_marks()) if alike(six_marks(), without(six_marks(), path))])
        self.assertEqual(idle_parts(walk()), [])


class IdleLots(unittest.TestCase):
    def test_no_other_lot(self):
        for tree in (PASS, DROP, loop(MARK), row(PASS, PASS), choice(A, B), ("not", choice(at("a", 1), at("a", 2)))):
            self.assertEqual(idle_lots(pair(tree)), [()])

    def test_alternatives_that_never_matter(self):
        for tree, wanted in (
                (choice(A, DROP), [((1,),)]), (choice(A, DROP, DROP), [((1,), (2,))]),
                (choice(A, A), [((0,),), ((1,),)]), (choice(A, B, A), [((0,),), ((2,),)]),
                (choice(A, A, A), [((0,), (1,)), ((0,), (2,)), ((1,), (2,))]),
                (choice(A, A, B, B), [((0,), (2,)), ((0,), (3,)), ((1,), (2,)), ((1,), (3,))]),
                (choice(DROP, DROP), [((0,), (1,))]), (row(choice(A, B), DROP), [((0, 0), (0, 1))]),
                (loop(choice(PASS, MARK)), [((0, 0),)]), (choice(loop(MARK), MARK, PASS), [((1,), (2,))]),
                (choice(MARK, row(MARK, loop(MARK))), [((0,),)])):
            with self.subTest(tree):
                self.assertEqual(idle_lots(pair(tree)), wanted)

    def test_the_longest_first_then_ascending(self):
        # Either the first one alone, or all others together.
        tree = choice(at("a", 1), row(at("a", 1), at("b", 0)), row(at("a", 1), ("not", at("b", 0))))
        self.assertEqual(idle_lots(pair(tree)), [((1,), (2,)), ((0,),)])
        tree = choice(at("a", 1), NO_A, PASS)
        self.assertEqual(idle_lots(solo(tree)), [((0,), (1,)), ((2,),)])

    def test_alternatives_within_alternatives(self):
        self.assertEqual(idle_lots(solo(choice(choice(A, A), B))), [((0, 0),), ((0, 1),)])
        self.assertEqual(idle_lots(solo(choice(choice(A, B), A, B))),
                         [((0, 0), (0, 1)), ((0, 0), (2,)), ((0, 1), (1,)), ((1,), (2,)), ((0,),)])
        self.assertEqual(idle_lots(solo(choice(choice(A, DROP), choice(A, DROP)))),
                         [((0, 0), (0, 1), (1, 1)), ((0, 1), (1, 0), (1, 1)), ((0,), (1, 1)), ((0, 1), (1,))])

    def test_alternatives_within_tests_and_loops(self):
        self.assertEqual(idle_lots(solo(row(("not", choice(at("a", 1), at("a", 1))), MARK))),
                         [((0, 0, 0),), ((0, 0, 1),)])
        self.assertEqual(idle_lots(solo(loop(choice(A, A)))), [((0, 0),), ((0, 1),)])
        self.assertEqual(idle_lots(solo(row(loop(choice(A, put("a", 3))), at("a", 1)))), [((0, 0, 1),)])
        self.assertEqual(idle_lots(solo(row(loop(choice(A, put("a", 1))), at("a", 1)))), [()])

    def test_a_lot_of_which_a_part_alone_is_not_alike(self):
        # Struck alone, the alternative of the not lets more through; both together they do not.
        tree = row(choice(at("a", 1), DROP), ("not", choice(at("b", 2), DROP)))
        self.assertEqual(idle_lots(pair(tree)), [((0, 1), (1, 0, 1))])
        tree = choice(row(at("a", 1), ("not", choice(at("a", 1), DROP))), DROP)
        self.assertEqual(idle_lots(solo(tree)), greatest_lots(solo(tree)))
        tree = row(choice(at("a", 2), at("a", 1)), choice(at("a", 2), ("not", choice(at("a", 1), at("a", 3)))))
        self.assertEqual(idle_lots(solo(tree)), greatest_lots(solo(tree)))
        both = row(choice(at("a", 1), at("a", 2)), ("not", choice(at("a", 1), DROP)))
        self.assertFalse(alike(solo(both), struck(solo(both), ((1, 0, 0),))))
        self.assertTrue(alike(solo(both), struck(solo(both), ((0, 0), (1, 0, 0)))))
        self.assertIn(((0, 0), (1, 0, 0), (1, 0, 1)), idle_lots(solo(both)))

    def test_as_the_words_say(self):
        chance = random.Random(804)
        counts = {}
        while sum(counts.values()) < 100:
            fields = ["a", "b"][:chance.choice((1, 2))]
            program = a_program(chance, fields, [0, 1], chance.choice((3, 4, 5)))
            try:
                program = Program(fields, varied(chance, program.tree, "a", 1))
            except WayError:
                pass
            if 2 <= len(alternatives(program)) <= 6:
                found = idle_lots(program)
                self.assertEqual(found, greatest_lots(program), program.tree)
                counts[len(found[0])] = counts.get(len(found[0]), 0) + 1
        self.assertGreater(min(counts[many] for many in (0, 1, 2, 3)), 5)

    def test_up_to_eight_alternatives(self):
        found = idle_lots(solo(choice(*[at("a", 1)] * 8)))
        self.assertEqual(found, [tuple((index,) for index in range(8) if index != left) for left in range(7, -1, -1)])
        for tree in (choice(*[A] * 4, *[DROP] * 5), ("not", choice(*[at("a", 1)] * 9)),
                     row(choice(*[at("a", 1)] * 5), loop(choice(*[DROP] * 4))),
                     row(choice(*[at("a", 1)] * 5), ("not", choice(*[DROP] * 4)))):
            error = raised(TooMany, idle_lots, solo(tree))
            self.assertEqual((error.what, error.most), ("alternatives", 8))
        self.assertEqual(idle_lots(solo(row(*[at("a", 1)] * 100))), [()])

    def test_greater_programs(self):
        self.assertEqual(idle_lots(walk()), [()])
        self.assertEqual(idle_lots(counter(6)), [((1, 0, 0, 5),)])
        program = pair(row(loop(choice(A, row(A, put("b", 1)))),
                           choice(C, row(C, loop(MARK)), loop(choice(MARK, DROP)))))
        self.assertEqual(idle_lots(program), greatest_lots(program))
        raised(TooMany, idle_lots, six_marks())


class WrongPrograms(unittest.TestCase):
    def test_ahead_of_everything_else(self):
        for thing in no_programs():
            for work in (idle_parts, idle_lots):
                self.assertEqual(raised(BadProgram, work, thing).part, "program")


if __name__ == "__main__":
    unittest.main()
