import itertools
import random
import types
import unittest

from markedways.errors import BadPacket, BadProgram
from markedways.programs import Program
from markedways.rounds import all_ways, most_marks
from markedways.ways import is_way, ways
from samplers import (DROP, MARK, PASS, a_packet, a_pair, at, choice, counter, loop, odometer, pair, put, row,
                      six_marks, solo, trio, walk)
from test_courses import NO_PACKETS
from test_programs import raised
from values import no_programs


def first_ones(program, packet, many):
    return list(itertools.islice(all_ways(program, packet), many))


class AllWays(unittest.TestCase):
    def test_it_is_a_generator(self):
        self.assertIsInstance(all_ways(walk(), (1, 7)), types.GeneratorType)

    def test_it_ends_if_there_are_finitely_many(self):
        for tree, found in (
                (DROP, []), (row(loop(MARK), DROP), []), (PASS, [((1,),)]), (row(MARK, put("a", 2)), [((1,), (2,))]),
                (choice(row(MARK, MARK), PASS, row(put("a", 0), MARK, MARK), put("a", 0), row(MARK, put("a", 9))),
                 [((0,),), ((1,),), ((1,), (9,)), ((0,), (0,), (0,)), ((1,), (1,), (1,))]),
                (loop(row(at("a", 1), MARK, put("a", 2))), [((1,),), ((1,), (2,))]),
                (choice(MARK, row(loop(row(MARK, put("a", 3))), at("a", 4))), [((1,), (1,))])):
            with self.subTest(tree):
                self.assertEqual(list(all_ways(solo(tree), (1,))), found)

    def test_endless_for_one_packet_finite_for_another(self):
        program = solo(choice(row(at("a", 1), loop(MARK)), row(at("a", 2), MARK)))
        self.assertEqual(list(all_ways(program, (2,))), [((2,), (2,))])
        self.assertEqual(list(all_ways(program, (3,))), [])
        self.assertEqual(first_ones(program, (1,), 30), [((1,),) * many for many in range(1, 31)])

    def test_many_marks(self):
        self.assertEqual(list(all_ways(counter(8), (0,))), [tuple((number,) for number in (2, 3, 4, 5, 6, 7, 8, 8))])
        found = list(all_ways(odometer(6), (0, 0, 0)))
        self.assertEqual([len(way) for way in found], [216])
        self.assertTrue(all(is_way(odometer(6), (0, 0, 0), way) for way in found))
        self.assertEqual(next(all_ways(odometer(6).loop(), (7, 7, 7))), ((7, 7, 7),))

    def test_gaps_between_the_numbers_of_marks(self):
        program = solo(choice(PASS, row(*[MARK] * 3, loop(row(*[MARK] * 3)))))
        self.assertEqual([len(way) - 1 for way in first_ones(program, (1,), 6)], [0, 3, 6, 9, 12, 15])

    def test_in_the_order_of_ways(self):
        chance = random.Random(81)
        counts = {True: 0, False: 0}
        for _ in range(150):
            program, _ = a_pair(chance)
            packet = a_packet(chance, program.fields, [0, 1, 5, 77])
            told = ways(program, packet, 3)
            if len(told) < 300:
                self.assertEqual(first_ones(program, packet, len(told)), told)
                is_finite = len(ways(program, packet, 6)) == len(told)
                counts[is_finite] += 1
                if is_finite and most_marks(program, Program(program.fields, PASS)) is not None:
                    self.assertEqual(list(all_ways(program, packet)), told)
                    self.assertEqual(sorted({way[-1] for way in told}), program(packet))
        self.assertGreater(min(counts.values()), 9)

    def test_each_as_soon_as_it_is_found(self):
        anything = loop(choice(*[put(field, number) for field in "abc" for number in range(8)]))
        program = trio(row(anything, MARK, anything, MARK, anything, MARK, anything, MARK, anything))
        self.assertEqual(first_ones(program, (0, 0, 0), 3), [((0, 0, 0),) * 4 + ((0, 0, last),) for last in range(3)])
        endless = trio(loop(row(anything, MARK)))
        self.assertEqual(len(set(first_ones(endless, (0, 0, 0), 2000))), 2000)

    def test_six_marks_and_the_first_program_of_the_document(self):
        for program, packet in ((six_marks(), (0, 7)), (walk(), (1, 7))):
            told = ways(program, packet, 4)
            self.assertEqual(first_ones(program, packet, len(told)), told)
            self.assertEqual(len(first_ones(program, packet, len(told) + 1)), len(told) + 1)

    def test_two_at_once(self):
        one, other = all_ways(walk(), (1, 7)), all_ways(walk(), (1, 7))
        self.assertEqual([(next(one), next(other)) for _ in range(3)], [(way, way) for way in ways(walk(), (1, 7), 2)])

    def test_errors_at_the_first_item_at_the_latest(self):
        def first(program, packet):
            return next(all_ways(program, packet))

        for thing in no_programs():
            self.assertEqual(raised(BadProgram, first, thing, None).part, "program")
        for packet in NO_PACKETS:
            self.assertEqual(raised(BadPacket, first, pair(PASS), packet).packet, packet)

    def test_by_name(self):
        self.assertEqual(list(all_ways(packet=(1,), program=solo(MARK))), [((1,), (1,))])


if __name__ == "__main__":
    unittest.main()
