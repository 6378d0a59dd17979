import random
import unittest

from markedways.errors import BadProgram, BadTest, OtherFields, TooMany
from markedways.packets import samples
from markedways.programs import Program
from markedways.rounds import is_ring, most_marks, ring
from markedways.ways import ways
from oracle import Walker, a_test, satisfied
from samplers import (DROP, MARK, PASS, a_packet, a_pair, at, choice, counter, loop, odometer, pair, put, row,
                      six_marks, solo, take, trio, walk)
from test_programs import raised
from test_trees import ONLY_TREES
from values import no_programs, odd_values


def is_a_ring(program, source, thing):
    """Point 51, word by word, for what has the form of a ring."""
    packet, before, turn, behind, end = thing
    if not satisfied(program.fields, source.tree, packet) or not before or not turn or before[-1] != turn[-1]:
        return False
    walker, place, now = Walker(program), 0, packet
    for step in before + turn + behind:
        if step not in walker.steps(place, now):
            return False
        place, now = step
    return end in walker.ends(place, now)


def some_source(chance, program):
    tree = PASS if chance.random() < 0.5 else a_test(chance, list(program.fields), [0, 1, 3], 2)
    return Program(program.fields, tree)


class MostMarks(unittest.TestCase):
    def most(self, tree, source=PASS):
        return most_marks(pair(tree), pair(source))

    def test_the_greatest_number(self):
        for tree, most in (
                (PASS, 0), (MARK, 1), (row(MARK, MARK, MARK), 3), (choice(PASS, MARK, row(MARK, MARK)), 2),
                (row(at("a", 1), MARK), 1), (row(loop(PASS), MARK, loop(put("a", 1))), 1),
                (choice(MARK, row(MARK, MARK, MARK, DROP)), 1), (choice(PASS, row(MARK, at("a", 1), at("a", 2))), 0),
                (loop(row(at("a", 1), MARK, put("a", 2))), 1),
                (loop(choice(row(at("a", 1), MARK, put("a", 2)), row(at("a", 2), put("a", 3), MARK))), 2)):
            with self.subTest(tree):
                self.assertEqual(self.most(tree), most)
                self.assertIsNone(ring(pair(tree), pair(PASS)))

    def test_more_than_six_and_hundreds(self):
        for many in (3, 7, 8):
            self.assertEqual(most_marks(counter(many), solo(PASS)), many - 1)
        self.assertEqual(most_marks(odometer(3), trio(PASS)), 26)
        self.assertEqual(most_marks(odometer(8), trio(PASS)), 511)

    def test_without_ways_it_is_minus_one(self):
        for tree in (DROP, row(MARK, DROP), row(loop(MARK), DROP), row(put("a", 1), loop(MARK), at("a", 2))):
            self.assertEqual(self.most(tree), -1)
            self.assertIsNone(ring(pair(tree), pair(PASS)))
        self.assertEqual(self.most(loop(MARK), DROP), -1)
        self.assertEqual(self.most(row(at("a", 1), loop(MARK)), at("a", 2)), -1)
        self.assertEqual(self.most(row(at("a", 1), loop(MARK)), row(at("a", 1), at("a", 3))), -1)

    def test_without_a_greatest_number_it_is_none(self):
        for tree in (loop(MARK), loop(loop(MARK)), loop(row(MARK, MARK)), row(loop(MARK), at("a", 5)),
                     choice(PASS, row(at("b", 3), loop(row(MARK, choice(put("a", 1), put("a", 2)))))),
                     loop(choice(row(at("a", 1), MARK, put("a", 2)), row(at("a", 2), put("a", 1), MARK)))):
            with self.subTest(tree):
                self.assertIsNone(self.most(tree))
                self.assertIsNotNone(ring(pair(tree), pair(PASS)))
        self.assertIsNone(most_marks(odometer(8).loop(), trio(PASS)))

    def test_rounds_from_which_no_end_is_come_to_do_not_count(self):
        stuck = row(put("a", 1), loop(MARK), at("a", 2))
        self.assertEqual(self.most(choice(MARK, stuck)), 1)
        self.assertEqual(self.most(choice(row(at("b", 4), loop(MARK), at("b", 5)), row(MARK, MARK))), 2)
        self.assertEqual(self.most(row(loop(row(MARK, put("a", 2))), choice(at("a", 1), at("a", 3)))), 0)

    def test_loops_in_which_nothing_is_written_down(self):
        self.assertEqual(self.most(loop(PASS)), 0)
        self.assertEqual(self.most(row(loop(choice(put("a", 1), put("a", 2))), MARK, loop(loop(take("a", "b"))))), 1)
        self.assertEqual(self.most(loop(choice(put("a", 1), row(at("a", 1), put("a", 2))))), 0)

    def test_only_packets_that_satisfy_source_count(self):
        tree = choice(row(at("a", 1), MARK), row(at("a", 2), MARK, MARK), row(at("a", 3), loop(MARK)))
        for source, most in ((at("a", 1), 1), (at("a", 2), 2), (at("a", 3), None), (at("a", 4), -1), (PASS, None),
                             (("not", at("a", 3)), 2), (choice(at("a", 1), at("a", 4)), 1), (at("b", 1), None),
                             (row(at("b", 1), ("not", choice(at("a", 2), at("a", 3)))), 1)):
            with self.subTest(source):
                self.assertEqual(self.most(tree, source), most)

    def test_where_only_numbers_that_are_nowhere_named_have_them(self):
        other = ("not", choice(*[at("a", number) for number in (0, 1, 2, 5)]))
        self.assertEqual(self.most(choice(PASS, row(other, MARK, MARK))), 2)
        self.assertIsNone(self.most(choice(PASS, row(other, loop(MARK)))))
        self.assertEqual(self.most(row(other, MARK), choice(at("a", 0), at("a", 7))), 1)
        last = ("not", choice(*[at("b", number) for number in range(8)]))
        self.assertIsNone(self.most(row(last, take("a", "b"), last, loop(row(MARK, ("not", at("a", 0)))))))
        self.assertEqual(self.most(row(take("a", "b"), last, choice(MARK, row(at("a", 0), MARK, MARK)))), 1)

    def test_the_example_of_the_document(self):
        self.assertEqual(most_marks(solo(choice(at("a", 1), at("a", 2))), solo(PASS)), 0)

    def test_against_ways(self):
        chance = random.Random(71)
        counts = {}
        for _ in range(300):
            program, _ = a_pair(chance)
            source = some_source(chance, program)
            most = most_marks(program, source)
            counts[most] = counts.get(most, 0) + 1
            found = [packet for packet in samples(program.fields, sorted(set(program.numbers + source.numbers)))
                     if source.holds(packet)]
            limit = 3 if most is None or most > 2 else most + 1
            told = [len(way) - 1 for packet in found for way in ways(program, packet, limit)]
            if most is None:
                # A ring shows that there is none: it is judged below.
                self.assertTrue(is_a_ring(program, source, ring(program, source)))
            elif most <= 2:
                self.assertEqual(max(told, default=-1), most, (program.tree, source.tree))
        self.assertGreater(min(counts[most] for most in (None, -1, 0, 1)), 10)


class Rings(unittest.TestCase):
    def check(self, program, source):
        found = ring(program, source)
        self.assertIs(found is None, most_marks(program, source) is not None)
        if found is not None:
            self.assertTrue(is_a_ring(program, source, found), (program.tree, source.tree, found))
            self.assertIs(is_ring(program, source, found), True)
        return found

    def test_a_ring_exactly_if_there_is_no_greatest_number(self):
        chance = random.Random(72)
        counts = {True: 0, False: 0}
        for _ in range(250):
            program, _ = a_pair(chance, 6)
            counts[self.check(program, some_source(chance, program)) is None] += 1
        self.assertGreater(min(counts.values()), 20)
        self.assertIsNotNone(self.check(six_marks(), pair(PASS)))
        self.assertIsNotNone(self.check(walk(), Program(["at", "tag"], ("is", "tag", 9))))

    def test_its_parts(self):
        packet, before, turn, behind, end = self.check(walk(), Program(["at", "tag"], ("is", "at", 2)))
        self.assertEqual(packet[0], 2)
        for part in (before, turn, behind):
            self.assertIsInstance(part, tuple)
        self.assertEqual(before[-1], turn[-1])
        self.assertEqual(self.check(solo(loop(MARK)), solo(at("a", 3))),
                         ((3,), ((1, (3,)),), ((1, (3,)),), (), (3,)))

    def test_with_much_ahead_of_it_and_behind_it(self):
        program = solo(row(MARK, put("a", 1), MARK, loop(row(MARK, put("a", 2), MARK)), MARK, put("a", 3), MARK))
        packet, before, turn, behind, end = self.check(program, solo(at("a", 7)))
        self.assertEqual((packet, end), ((7,), (3,)))
        self.assertEqual(before[:2], ((1, (7,)), (2, (1,))))
        self.assertEqual(behind[-2:], ((5, (2,)), (6, (3,))))
        self.assertEqual(len(turn), 2)

    def test_long_ones(self):
        packet, before, turn, behind, end = self.check(odometer(5).loop(), trio(PASS))
        self.assertEqual(len(turn), 124)
        self.check(odometer(8).loop(), trio(PASS))

    def test_equal_rings_for_equal_arguments(self):
        one = walk()
        found = [ring(Program(fields, one.tree), Program(fields, PASS)) for fields in (["at", "tag"], ("tag", "at"))]
        self.assertEqual(found[0], found[1])


class IsRing(unittest.TestCase):
    def setUp(self):
        self.program = solo(row(MARK, loop(row(choice(put("a", 1), put("a", 2)), MARK)), MARK))
        self.source = solo(at("a", 7))
        self.parts = [(7,), ((1, (7,)), (2, (1,))), ((2, (2,)), (2, (1,))), ((3, (1,)),), (1,)]

    def judge(self, *parts):
        answer = is_ring(self.program, self.source, tuple(parts))
        self.assertIsInstance(answer, bool)
        self.assertIs(answer, is_a_ring(self.program, self.source, parts))
        return answer

    def test_one_and_such_with_rounds_more(self):
        packet, before, turn, behind, end = self.parts
        self.assertTrue(self.judge(packet, before, turn, behind, end))
        for many in range(2, 8):
            self.assertTrue(self.judge(packet, before, turn * many, behind, end))
            self.assertTrue(self.judge(packet, before + turn * many, turn, behind, end))
            self.assertTrue(self.judge(packet, before, turn, turn * many + behind, end))
        self.assertTrue(self.judge(packet, before, ((2, (1,)),) * 3, behind, end))
        self.assertTrue(self.judge(packet, before, turn, ((2, (2,)), (3, (2,))), (2,)))

    def test_the_last_pairs_of_before_and_turn(self):
        packet, before, turn, behind, end = self.parts
        self.assertFalse(self.judge(packet, before, turn[:1], behind, end))
        self.assertFalse(self.judge(packet, before, ((2, (1,)), (2, (2,))), ((3, (2,)),), (2,)))
        self.assertFalse(self.judge(packet, before + ((2, (2,)),), turn[1:], behind, end))
        self.assertFalse(self.judge(packet, before[:1], before[1:] + turn, behind, end))

    def test_empty_parts(self):
        packet, before, turn, behind, end = self.parts
        self.assertFalse(self.judge(packet, (), turn, behind, end))
        self.assertFalse(self.judge(packet, before, (), behind, end))
        self.assertFalse(self.judge(packet, before + turn, (), behind, end))
        self.assertFalse(self.judge(packet, (), (), (), packet))
        self.assertFalse(self.judge(packet, before, turn, (), end))
        program = solo(loop(MARK))
        self.assertIs(is_ring(program, solo(PASS), ((7,), ((1, (7,)),), ((1, (7,)),), (), (7,))), True)

    def test_another_packet_or_end(self):
        packet, before, turn, behind, end = self.parts
        self.assertFalse(self.judge((6,), before, turn, behind, end))
        self.assertFalse(self.judge((6,), ((1, (6,)), (2, (1,))), turn, behind, end))
        self.assertFalse(self.judge(packet, before, turn, behind, (2,)))
        self.assertFalse(self.judge(packet, before, turn, ((3, (2,)),), (2,)))
        self.assertFalse(self.judge(packet, before[1:], turn, behind, end))
        self.assertFalse(self.judge(packet, ((0, (7,)),) + before, turn, behind, end))

    def test_packets_that_are_no_samples(self):
        program = pair(loop(row(MARK, take("a", "b"))))
        for first in ((9, 77), (10 ** 50, 10 ** 99)):
            there = (1, (first[1], first[1]))
            thing = (first, ((1, first), there), (there,), (), there[1])
            self.assertIs(is_ring(program, pair(("not", at("a", 1))), thing), True)
            self.assertIs(is_ring(program, pair(at("a", 1)), thing), False)
            self.assertIs(is_ring(program, pair(PASS), thing[:4] + (first,)), False)

    def test_pairs_that_are_live_nowhere(self):
        program = solo(choice(PASS, row(put("a", 1), loop(MARK), at("a", 2))))
        self.assertIs(is_ring(program, solo(PASS), ((0,), ((1, (1,)),), ((1, (1,)),), (), (1,))), False)

    def test_with_one_or_two_changes(self):
        chance = random.Random(73)
        counts = {True: 0, False: 0}
        while sum(counts.values()) < 400:
            program, _ = a_pair(chance, 6)
            source = some_source(chance, program)
            found = ring(program, source)
            for _ in range(4 if found else 0):
                parts = [list(part) if at in (1, 2, 3) else part for at, part in enumerate(found)]
                for _ in range(chance.choice((1, 2))):
                    self.change(chance, program, parts)
                thing = tuple(tuple(part) for part in parts)
                answer = is_ring(program, source, thing)
                self.assertIs(answer, is_a_ring(program, source, thing), (program.tree, source.tree, thing))
                counts[answer] += 1
        self.assertGreater(min(counts.values()), 80)

    def change(self, chance, program, parts):
        packet = a_packet(chance, program.fields, [0, 1, 5, 77])
        at = chance.randrange(5)
        if at in (0, 4):
            parts[at] = packet
        elif chance.random() < 0.3:
            parts[at].extend(parts[2])
        elif parts[at]:
            index = chance.randrange(len(parts[at]))
            place, now = parts[at][index]
            parts[at][index:index + chance.choice((0, 1))] = chance.choice(
                [[(place, packet)], [(chance.randrange(program.marks + 1), now)], []])

    def test_lists_in_the_place_of_tuples_and_true_in_the_place_of_1(self):
        packet, before, turn, behind, end = self.parts
        for thing in (self.parts, (list(packet), before, turn, behind, end), (packet, list(before), turn, behind, end),
                      (packet, before, list(turn), behind, end), (packet, before, turn, list(behind), end),
                      (packet, before, turn, behind, list(end)), (packet, before, turn, ([3, (1,)],), end),
                      (packet, before, turn, ((3, [1]),), end), (packet, before, turn, behind, (True,)),
                      (packet, ((True, (7,)), (2, (1,))), turn, behind, end),
                      (packet, ((1, (7,)), (2, (True,))), turn, behind, end)):
            self.assertIs(is_ring(self.program, self.source, thing), False)

    def test_values_of_other_kinds(self):
        self.assertTrue(self.judge(*self.parts))
        things = odd_values() + [(), (1,), ((1,),), ((1, (1,), 2),), ((1,), (2, (1,))), (1, (1,)), ((-1, (1,)),),
                                 ((3, 1),), ((3, (1, 1)),), ((10 ** 99, (1,)),), ((3, (10 ** 99,)),), (("3", (1,)),),
                                 ((None, (1,)),)]
        for thing in things:
            self.assertIs(is_ring(self.program, self.source, thing), False)
            for at in range(5):
                parts = self.parts[:at] + [thing] + self.parts[at + 1:]
                if not (at == 4 and thing == (1,)):
                    self.assertIs(is_ring(self.program, self.source, tuple(parts)), False, (at, thing))
        self.assertIs(is_ring(self.program, self.source, tuple(self.parts[:4])), False)
        self.assertIs(is_ring(self.program, self.source, (*self.parts, ())), False)


class WrongArguments(unittest.TestCase):
    def test_their_order(self):
        for work, rest in ((most_marks, ()), (ring, ()), (is_ring, (None,))):
            for thing in no_programs():
                self.assertEqual(raised(BadProgram, work, thing, None, *rest).part, "program")
                self.assertEqual(raised(BadTest, work, walk(), thing, *rest).part, "source")
            for tree in ONLY_TREES:
                fields = ["a", "b"] + [name for name in ("set", "take") if name in tree[1:]]
                self.assertEqual(raised(BadTest, work, walk(), Program(fields, tree), *rest).part, "source")
            raised(OtherFields, work, walk(), solo(PASS), *rest)
            eight = pair(choice(*[put("a", number) for number in range(8)]))
            raised(OtherFields, work, eight, solo(at("a", 8)), *rest)
            error = raised(TooMany, work, eight, pair(at("b", 8)), *rest)
            self.assertEqual((error.what, error.most), ("numbers", 8))
            work(eight, pair(at("b", 7)), *rest)

    def test_by_name(self):
        self.assertEqual(most_marks(source=solo(PASS), program=solo(MARK)), 1)
        found = ring(source=solo(PASS), program=solo(loop(MARK)))
        self.assertIs(is_ring(thing=found, source=solo(PASS), program=solo(loop(MARK))), True)


if __name__ == "__main__":
    unittest.main()
