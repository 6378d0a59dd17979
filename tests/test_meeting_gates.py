import random
import unittest

from markedways.errors import BadProgram, BadTest, BadTests, OtherFields, TooMany
from markedways.meeting import keeps, meeting_gate, meets
from markedways.packets import samples
from markedways.programs import Program, all_trees, is_test
from markedways.ways import ways
from oracle import Walker, satisfied
from samplers import (DROP, MARK, PASS, a_packet, a_pair, at, choice, loop, odometer, pair, put, row, six_marks, solo,
                      take, trio, walk)
from test_gates import levels
from test_meeting import some_ends, some_tests
from test_programs import raised
from test_trees import ONLY_TREES
from values import no_programs


def can_dodge(walker, packet, goal, via):
    """Whether some way of the packet ends in goal with fewer tests met than all; one step at a time, by point 24."""
    fields = walker.names
    waiting, known = [(0, packet, 0)], set()
    while waiting:
        place, now, met = waiting.pop()
        if any(satisfied(fields, goal.tree, end) for end in walker.ends(place, now)):
            return True
        for mark, written in walker.steps(place, now):
            met_there = met + satisfied(fields, via[met].tree, written)
            if met_there < len(via) and (mark, written, met_there) not in known:
                known.add((mark, written, met_there))
                waiting.append((mark, written, met_there))
    return False


class MeetingGate(unittest.TestCase):
    def holding(self, program, goal, via, packets):
        found = meeting_gate(program, goal, via)
        self.assertIsInstance(found, Program)
        self.assertEqual(found.fields, program.fields)
        self.assertTrue(is_test(found.tree))
        self.assertLessEqual(levels(found.tree), 10)
        self.assertLessEqual(len(all_trees(found.tree)), 2000)
        return [packet for packet in packets if found.holds(packet)]

    def of_one(self, tree, goal, *via):
        packets = [(number,) for number in (0, 1, 2, 3, 4, 10 ** 12)]
        found = self.holding(solo(tree), solo(goal), [solo(test) for test in via], packets)
        return [packet[0] for packet in found]

    def test_a_filter(self):
        every = [0, 1, 2, 3, 4, 10 ** 12]
        self.assertEqual(self.of_one(MARK, PASS, at("a", 1)), [1])
        self.assertEqual(self.of_one(MARK, at("a", 2), at("a", 1)), [0, 1, 3, 4, 10 ** 12])
        self.assertEqual(self.of_one(PASS, PASS, PASS), [])
        self.assertEqual(self.of_one(MARK, PASS, PASS), every)
        self.assertEqual(self.of_one(MARK, PASS, PASS, PASS), [])
        self.assertEqual(self.of_one(row(MARK, MARK), PASS, PASS, PASS), every)
        self.assertEqual(self.of_one(row(MARK, put("a", 1)), PASS, at("a", 1)), [1])
        self.assertEqual(self.of_one(row(MARK, put("a", 1), MARK), PASS, at("a", 1)), every)

    def test_packets_without_ways_or_without_ways_to_the_goal_satisfy_it(self):
        every = [0, 1, 2, 3, 4, 10 ** 12]
        self.assertEqual(self.of_one(DROP, PASS, DROP), every)
        self.assertEqual(self.of_one(at("a", 2), PASS, DROP), [0, 1, 3, 4, 10 ** 12])
        self.assertEqual(self.of_one(row(loop(MARK), DROP), PASS, DROP), every)
        self.assertEqual(self.of_one(PASS, at("a", 3), DROP), [0, 1, 2, 4, 10 ** 12])
        self.assertEqual(self.of_one(row(MARK, put("a", 1)), at("a", 2), DROP), every)

    def test_one_way_that_dodges_is_enough(self):
        self.assertEqual(self.of_one(choice(MARK, row(at("a", 3), PASS)), PASS, PASS), [0, 1, 2, 4, 10 ** 12])
        tree = loop(choice(row(at("a", 1), MARK, put("a", 2)), row(at("a", 2), MARK, put("a", 3))))
        self.assertEqual(self.of_one(tree, at("a", 3), at("a", 1)), [0, 1, 4, 10 ** 12])
        self.assertEqual(self.of_one(tree, at("a", 3), at("a", 1), at("a", 2)), [0, 1, 4, 10 ** 12])
        self.assertEqual(self.of_one(tree, at("a", 3), at("a", 2), at("a", 1)), [0, 4, 10 ** 12])
        self.assertEqual(self.of_one(tree, PASS, at("a", 2)), [])

    def test_via_in_another_order(self):
        tree = row(choice(row(MARK, put("a", 2)), row(at("a", 4), put("a", 2), MARK, put("a", 4))), MARK)
        self.assertEqual(self.of_one(tree, PASS, ("not", at("a", 2)), at("a", 2)), [0, 1, 3, 10 ** 12])
        self.assertEqual(self.of_one(tree, at("a", 4), at("a", 2), at("a", 4)), [0, 1, 2, 3, 4, 10 ** 12])
        self.assertEqual(self.of_one(tree, PASS, at("a", 2), at("a", 2)), [2])

    def test_for_any_packet(self):
        chance = random.Random(603)
        counts = {True: 0, False: 0}
        for _ in range(250):
            program, _ = a_pair(chance, 6)
            goal = some_ends(chance, program.fields)[1]
            via = some_tests(chance, program.fields)
            packets = [a_packet(chance, program.fields, [0, 1, 3, 5, 9, 77, 78, 10 ** 12]) for _ in range(8)]
            numbers = {number for one in (program, goal, *via) for number in one.numbers}
            packets += samples(program.fields, sorted(numbers))[::5]
            walker = Walker(program)
            good = [packet for packet in packets if not can_dodge(walker, packet, goal, via)]
            self.assertEqual(self.holding(program, goal, via, packets), good, (program.tree, goal.tree))
            counts[True] += len(good)
            counts[False] += len(packets) - len(good)
        self.assertGreater(min(counts.values()), 400)

    def test_as_the_ways_are(self):
        chance = random.Random(604)
        for _ in range(150):
            program, _ = a_pair(chance)
            goal = some_ends(chance, program.fields)[1]
            via = some_tests(chance, program.fields)
            found = meeting_gate(program, goal, via)
            for packet in [a_packet(chance, program.fields, [0, 1, 3, 5, 77]) for _ in range(5)]:
                if found.holds(packet):
                    for way in ways(program, packet, 3):
                        self.assertTrue(not goal.holds(way[-1]) or meets(program.fields, way, via))

    def test_it_agrees_with_keeps(self):
        chance = random.Random(605)
        counts = {True: 0, False: 0}
        for _ in range(200):
            program, _ = a_pair(chance, 6)
            source, goal = some_ends(chance, program.fields)
            via = some_tests(chance, program.fields)
            found = meeting_gate(program, goal, via)
            told = keeps(program, source, goal, via)
            numbers = sorted({number for one in (program, source, goal, *via) for number in one.numbers})
            starts = [packet for packet in samples(program.fields, numbers) if source.holds(packet)]
            self.assertIs(told, all(found.holds(packet) for packet in starts))
            # The gate is the weakest source from which the tests are kept.
            self.assertTrue(keeps(program, found, goal, via))
            counts[told] += 1
        self.assertGreater(min(counts.values()), 40)

    def test_at_the_limits(self):
        chance = random.Random(606)
        numbers = list(range(8))
        for share in (60, 200):
            corners = [row(*[at(field, chance.choice(numbers)) for field in "abc"]) for _ in range(share)]
            for test in (choice(*corners), ("not", choice(*corners)),
                         choice(*[row(at("a", number), at("b", number)) for number in numbers])):
                filtering = trio(test)
                for tree, first in ((MARK, 2), (row(take("c", "a"), MARK, take("a", "b")), 0)):
                    packets = samples(["a", "b", "c"], numbers)[::5]
                    good = [packet for packet in packets if filtering.holds((*packet[:2], packet[first]))]
                    self.assertEqual(self.holding(trio(tree), trio(PASS), [filtering], packets), good)
        every = samples(["a", "b", "c"], [1, 8])
        full = trio(row(*[at(field, 8) for field in "abc"]))
        self.assertEqual(self.holding(odometer(8), trio(PASS), [trio(at("c", 3)), trio(at("b", 5)), full], every),
                         every)
        self.assertEqual(self.holding(odometer(8), trio(PASS), [full, trio(at("c", 3))], every), [])

    def test_equal_gates_for_equal_arguments(self):
        program = six_marks()
        via = [pair(at("a", 2)), pair(at("b", 1))]
        one = meeting_gate(program, pair(at("a", 2)), via)
        self.assertEqual(one,
                         meeting_gate(Program(["b", "a"], program.tree), Program(("b", "a"), at("a", 2)), tuple(via)))

    def test_wrong_arguments(self):
        program, fine = walk(), Program(["at", "tag"], PASS)
        for thing in no_programs():
            self.assertEqual(raised(BadProgram, meeting_gate, thing, None, None).part, "program")
            self.assertEqual(raised(BadTest, meeting_gate, program, thing, None).part, "goal")
            self.assertEqual(raised(BadTests, meeting_gate, program, fine, [fine, thing]).at, 1)
        raised(OtherFields, meeting_gate, program, solo(PASS), None)
        for thing in ([], (), None, [fine] * 4, fine, {0: fine}):
            self.assertIsNone(raised(BadTests, meeting_gate, program, fine, thing).at)
        self.assertEqual(raised(BadTests, meeting_gate, program, fine, [fine, solo(PASS), None]).at, 1)
        for tree in ONLY_TREES:
            no_test = Program(["a", "b"] + [name for name in ("set", "take") if name in tree[1:]], tree)
            self.assertEqual(raised(BadTest, meeting_gate, pair(PASS), no_test, None).part, "goal")
            self.assertEqual(raised(BadTests, meeting_gate, pair(PASS), pair(PASS), [no_test]).at, 0)

    def test_too_many_numbers_behind_all_other_errors(self):
        eight = solo(choice(*[at("a", number) for number in range(8)]))
        fine, more = solo(at("a", 7)), solo(at("a", 8))
        for things in ((eight, more, [fine]), (more, eight, [fine]), (eight, fine, [fine, more]),
                       (fine, fine, [eight, more])):
            error = raised(TooMany, meeting_gate, *things)
            self.assertEqual((error.what, error.most), ("numbers", 8))
            raised(BadTests, meeting_gate, *things[:2], [*things[2], None])
        raised(OtherFields, meeting_gate, eight, pair(at("a", 8)), [fine])
        self.assertIsInstance(meeting_gate(eight, fine, [eight, fine, fine]), Program)


if __name__ == "__main__":
    unittest.main()
