import random
import unittest

from markedways.errors import BadProgram, BadTest, OtherFields, TooMany
from markedways.packets import samples
from markedways.programs import Program, all_trees, is_test
from markedways.rounds import gate, weakest_gate
from oracle import a_test
from samplers import (DROP, MARK, PASS, a_packet, a_pair, at, choice, loop, odometer, pair, put, row, six_marks, solo,
                      take, trio, walk)
from test_programs import raised
from test_trees import ONLY_TREES
from values import no_programs


def levels(tree):
    return 1 + max([levels(part) for part in tree[1:] if isinstance(part, tuple)], default=0)


class WeakestGate(unittest.TestCase):
    def holding(self, program, bad, packets):
        found = weakest_gate(program, bad)
        self.assertIsInstance(found, Program)
        self.assertEqual(found.fields, program.fields)
        self.assertTrue(is_test(found.tree))
        self.assertLessEqual(levels(found.tree), 10)
        self.assertLessEqual(len(all_trees(found.tree)), 2000)
        return [packet for packet in packets if found.holds(packet)]

    def test_of_pass_it_is_the_opposite(self):
        packets = [(number,) for number in (0, 1, 2, 3, 10 ** 12)]
        for bad, found in ((PASS, []), (DROP, packets), (at("a", 1), packets[:1] + packets[2:]),
                           (("not", at("a", 1)), packets[1:2]), (choice(at("a", 1), at("a", 3)), packets[::2]),
                           (row(at("a", 1), at("a", 3)), packets)):
            with self.subTest(bad):
                self.assertEqual(self.holding(solo(PASS), solo(bad), packets), found)

    def test_packets_without_ways_satisfy_it(self):
        packets = [(0,), (1,), (2,), (9,)]
        self.assertEqual(self.holding(solo(DROP), solo(PASS), packets), packets)
        self.assertEqual(self.holding(solo(row(at("a", 1), MARK)), solo(PASS), packets), [(0,), (2,), (9,)])
        self.assertEqual(self.holding(solo(row(MARK, loop(MARK), DROP)), solo(PASS), packets), packets)

    def test_one_way_that_ends_so_is_enough(self):
        packets = [(0, 0), (1, 0), (2, 0), (0, 1), (7, 7)]
        program = pair(loop(choice(row(at("a", 1), MARK, put("a", 2)), row(at("a", 2), MARK, put("b", 5)))))
        self.assertEqual(self.holding(program, pair(at("b", 5)), packets), [(0, 0), (0, 1), (7, 7)])
        self.assertEqual(self.holding(program, pair(row(at("b", 5), at("a", 1))), packets), packets)
        self.assertEqual(self.holding(program, pair(at("a", 2)), packets), [(0, 0), (0, 1), (7, 7)])
        self.assertEqual(self.holding(pair(take("a", "b")), pair(at("a", 0)), packets), [(0, 1), (7, 7)])

    def test_numbers_that_only_one_of_both_names(self):
        packets = [(number,) for number in range(6)]
        self.assertEqual(self.holding(solo(put("a", 3)), solo(at("a", 4)), packets), packets)
        self.assertEqual(self.holding(solo(put("a", 3)), solo(at("a", 3)), packets), [])
        self.assertEqual(self.holding(solo(at("a", 3)), solo(("not", at("a", 4))), packets),
                         [(0,), (1,), (2,), (4,), (5,)])

    def test_the_example_of_the_document(self):
        few = solo(choice(at("a", 1), at("a", 2)))
        found = weakest_gate(few, solo(at("a", 2)))
        self.assertEqual([found.holds((number,)) for number in (0, 1, 2, 3)], [True, True, False, True])

    def test_for_any_packet(self):
        chance = random.Random(61)
        counts = {True: 0, False: 0}
        for _ in range(250):
            program, _ = a_pair(chance, 6)
            bad = Program(program.fields, a_test(chance, list(program.fields), [0, 1, 3], 3))
            packets = [a_packet(chance, program.fields, [0, 1, 3, 5, 9, 77, 78, 10 ** 12]) for _ in range(12)]
            packets += samples(program.fields, sorted(set(program.numbers + bad.numbers)))[::5]
            good = [packet for packet in packets if not any(bad.holds(end) for end in program(packet))]
            self.assertEqual(self.holding(program, bad, packets), good, (program.tree, bad.tree))
            counts[True] += len(good)
            counts[False] += len(packets) - len(good)
        self.assertGreater(min(counts.values()), 500)

    def test_at_the_limits(self):
        chance = random.Random(62)
        numbers = list(range(8))
        corners = [row(*[at(field, chance.choice(numbers)) for field in "abc"]) for _ in range(200)]
        for bad in (choice(*corners), ("not", choice(*corners)),
                    choice(*[row(at("a", number), at("b", number)) for number in numbers])):
            bad = trio(bad)
            for program in (trio(PASS), trio(choice(PASS, MARK)), trio(take("c", "a"))):
                packets = samples(["a", "b", "c"], numbers)
                good = [packet for packet in packets if not any(bad.holds(end) for end in program(packet))]
                self.assertEqual(self.holding(program, bad, packets), good)
        self.assertEqual(self.holding(odometer(8), trio(PASS), samples(["a", "b", "c"], [1, 8])), [])

    def test_gates_of_any_samples(self):
        chance = random.Random(63)
        for numbers in ([], [0], [4], [1, 2, 9], list(range(8)), list(range(1, 9))):
            for fields in (("a",), ("a", "b"), ("a", "b", "c")):
                found = samples(fields, numbers)
                for share in (0, 0.05, 0.5, 0.9, 0.97, 1):
                    good = [packet for packet in found if chance.random() < share]
                    program = gate(fields, numbers, good)
                    self.assertTrue(is_test(program.tree))
                    self.assertLessEqual(levels(program.tree), 10)
                    self.assertLessEqual(len(all_trees(program.tree)), 2000)
                    self.assertEqual([packet for packet in found if program.holds(packet)], good)

    def test_equal_gates_for_equal_arguments(self):
        program = six_marks()
        one = weakest_gate(program, pair(at("a", 2)))
        self.assertEqual(one, weakest_gate(Program(["b", "a"], program.tree), Program(("b", "a"), at("a", 2))))

    def test_by_name(self):
        self.assertTrue(weakest_gate(bad=solo(at("a", 1)), program=solo(PASS)).holds((2,)))

    def test_wrong_arguments(self):
        program = walk()
        for thing in no_programs():
            self.assertEqual(raised(BadProgram, weakest_gate, thing, None).part, "program")
            self.assertEqual(raised(BadTest, weakest_gate, program, thing).part, "bad")
        for tree in ONLY_TREES:
            fields = ["a", "b"] + [name for name in ("set", "take") if name in tree[1:]]
            self.assertEqual(raised(BadTest, weakest_gate, program, Program(fields, tree)).part, "bad")
        raised(OtherFields, weakest_gate, program, solo(PASS))
        raised(OtherFields, weakest_gate, solo(PASS), pair(PASS))
        eight = pair(choice(*[at("a", number) for number in range(8)]))
        error = raised(TooMany, weakest_gate, eight, pair(at("b", 8)))
        self.assertEqual((error.what, error.most), ("numbers", 8))
        self.assertIsInstance(weakest_gate(eight, pair(at("b", 7))), Program)
        raised(OtherFields, weakest_gate, eight, solo(at("a", 8)))


if __name__ == "__main__":
    unittest.main()
