import copy
import unittest

from markedways.errors import BadProgram, OtherFields, TooMany
from markedways.failures import passing_by, stranding
from markedways.likeness import alike, beyond, has_ways, is_table, parting, table, within
from markedways.live import first_wrong, replayed
from markedways.machines import least_machine, machine_ways
from markedways.meeting import dodging, keeps, meeting_gate, meets
from markedways.parts import idle_lots, idle_parts, part_at, parts, struck, without
from markedways.programs import Program
from markedways.rounds import all_ways, is_ring, most_marks, ring, weakest_gate
from markedways.slices import are_apart, leak, sliced
from markedways.texts import program_text, read_program, read_tree, tree_text
from markedways.ways import ends, is_way, steps, ways
from samplers import MARK, PASS, at, choice, loop, pair, put, row, solo, trio, walk
from test_nets import net
from test_programs import raised
from values import no_programs

# Each function with its parameters and, for them, arguments that it takes.
ANY = Program(["at", "tag"], PASS)
NETS = Program(["at", "to"], PASS)
START = ((0,), (0,))
CALLS = [
    (ways, ["program", "packet", "most"], [walk(), (1, 7), 2]),
    (is_way, ["program", "packet", "thing"], [walk(), (1, 7), ((1, 7), (2, 7))]),
    (steps, ["program", "place", "packet"], [walk(), 1, (1, 7)]),
    (ends, ["program", "place", "packet"], [walk(), 1, (1, 7)]),
    (alike, ["one", "other"], [walk(), walk()]),
    (within, ["one", "other"], [walk(), ANY]),
    (has_ways, ["program"], [walk()]),
    (parting, ["one", "other"], [ANY, walk()]),
    (beyond, ["one", "other"], [walk(), ANY]),
    (table, ["one", "other", "word"], [ANY, walk(), "within"]),
    (is_table, ["one", "other", "word", "thing"], [ANY, ANY, "alike", [((0, 1), *START)]]),
    (least_machine, ["program", "numbers"], [walk(), [1, 5]]),
    (machine_ways, ["machine", "packet", "most"], [least_machine(walk()), (1, 1), 3]),
    (weakest_gate, ["program", "bad"], [walk(), ANY]),
    (most_marks, ["program", "source"], [walk(), ANY]),
    (ring, ["program", "source"], [walk(), ANY]),
    (is_ring, ["program", "source", "thing"], [walk(), ANY, ring(walk(), ANY)]),
    (meets, ["fields", "way", "via"], [["tag", "at"], ((1, 7), (2, 7)), [ANY]]),
    (keeps, ["program", "source", "goal", "via"], [walk(), ANY, ANY, [ANY, ANY]]),
    (dodging, ["program", "source", "goal", "via"], [walk(), ANY, ANY, [ANY, ANY]]),
    (meeting_gate, ["program", "goal", "via"], [walk(), ANY, [ANY, ANY]]),
    (leak, ["one", "other"], [walk(), ANY]),
    (are_apart, ["one", "other"], [walk(), ANY]),
    (sliced, ["program", "into", "out"], [walk(), ANY, ANY]),
    (part_at, ["program", "path"], [walk(), (0, 1)]),
    (parts, ["program"], [walk()]),
    (without, ["program", "path"], [walk(), (0, 1)]),
    (idle_parts, ["program"], [walk() + walk()]),
    (struck, ["program", "lot"], [walk(), ((0, 0), (0, 1))]),
    (idle_lots, ["program"], [walk() + walk()]),
    (stranding, ["net", "source", "goal", "most"], [net(), NETS, NETS, 1]),
    (passing_by, ["net", "source", "goal", "via", "most"], [net(), NETS, NETS, [NETS], 1]),
    (first_wrong, ["net", "journal"], [net(), [("cut", (1, 2)), ("undo",), ("cut", [1, 2])]]),
    (replayed, ["net", "journal"], [net(), [("cut", (1, 2)), ("undo",), ("strike", 1, 0)]]),
    (tree_text, ["tree"], [walk().tree]),
    (read_tree, ["text"], ["(a=1; mark)*"]),
    (program_text, ["program"], [walk()]),
    (read_program, ["text"], ["fields a\n(a=1; mark)*\n"]),
]
PAIRS = [(alike, ()), (within, ()), (parting, ()), (beyond, ()), (table, ("alike",)), (is_table, ("alike", []))]


class Calls(unittest.TestCase):
    def test_by_position_and_by_name(self):
        for work, names, things in CALLS:
            with self.subTest(work.__name__):
                told = work(*things)
                self.assertEqual(work(**dict(zip(names, things))), told)
                self.assertEqual(work(**dict(reversed(list(zip(names, things))))), told)
                self.assertEqual(work(things[0], **dict(zip(names[1:], things[1:]))), told)
        self.assertEqual(next(all_ways(packet=(1, 7), program=walk())), next(all_ways(walk(), (1, 7))))

    def test_what_is_passed_stays(self):
        for work, _, things in CALLS:
            with self.subTest(work.__name__):
                kept = copy.deepcopy(things)
                told = work(*things)
                self.assertEqual(things, kept)
                self.assertEqual(work(*things), told)

    def test_no_function_takes_more_or_less(self):
        for work, names, things in CALLS:
            with self.subTest(work.__name__):
                with self.assertRaises(TypeError):
                    work(*things, None)
                with self.assertRaises(TypeError):
                    work()


class TwoPrograms(unittest.TestCase):
    def test_no_programs(self):
        for thing in no_programs():
            self.assertEqual(raised(BadProgram, has_ways, thing).part, "program")
            for work, rest in PAIRS:
                self.assertEqual(raised(BadProgram, work, thing, None, *rest).part, "one")
                self.assertEqual(raised(BadProgram, work, thing, solo(PASS), *rest).part, "one")
                self.assertEqual(raised(BadProgram, work, pair(PASS), thing, *rest).part, "other")

    def test_other_fields(self):
        for work, rest in PAIRS:
            for one, other in ((solo(PASS), pair(PASS)), (pair(PASS), solo(PASS)), (pair(MARK), trio(MARK)),
                               (solo(PASS), Program(["b"], PASS)), (pair(PASS), Program(["a", "c"], PASS))):
                raised(OtherFields, work, one, other, *rest)
            work(pair(PASS), Program(("b", "a"), PASS), *rest)

    def test_too_many_numbers_behind_all_other_errors(self):
        many = [choice(*[at("a", number) for number in range(5)]),
                choice(*[put("b", number) for number in range(5, 9)])]
        one, other = pair(many[0]), pair(many[1])
        for work, rest in PAIRS:
            for some, more in ((one, other), (other, one), (pair(row(*many[0][1:], *many[1][1:4])), other)):
                error = raised(TooMany, work, some, more, *rest)
                self.assertEqual((error.what, error.most), ("numbers", 8))
            raised(OtherFields, work, one, trio(many[1]), *rest)
            work(one, pair(choice(*many[1][1:4])), *rest)
            work(one, pair(choice(*many[1][1:4], *many[0][1:])), *rest)


class AtTheLimits(unittest.TestCase):
    def test_three_fields_and_eight_numbers(self):
        anything = choice(*[put(field, number) for field in "abc" for number in range(8)])
        one = trio(loop(row(choice(at("a", 3), at("b", 4), ("take", "c", "a")), MARK, anything)))
        self.assertTrue(alike(one, one.loop()))
        self.assertIsNone(most_marks(one, trio(at("c", 7))))
        self.assertTrue(is_ring(one, trio(at("c", 7)), ring(one, trio(at("c", 7)))))
        self.assertEqual(parting(one, trio(PASS))[:2], ((0, 0, 0), ((0, 0, 0), (0, 0, 0))))

    def test_four_thousand_trees(self):
        rules = [row(at("a", number % 8), at("b", number // 8 % 8), put("a", number % 7), put("b", number % 5))
                 for number in range(798)]
        for marked in (0, 100, 200, 300, 400, 500):
            rules[marked] = (*rules[marked], MARK)
        one, other = pair(loop(choice(*rules))), pair(loop(choice(*reversed(rules))))
        self.assertEqual(one.marks, 6)
        self.assertTrue(alike(one, other))
        self.assertEqual(least_machine(one), least_machine(other))
        self.assertTrue(is_table(one, other, "alike", table(one, other, "alike")))


if __name__ == "__main__":
    unittest.main()
