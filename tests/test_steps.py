import random
import unittest

from markedways.errors import BadPacket, BadProgram, NoPlace
from markedways.packets import samples
from markedways.ways import ends, steps
from oracle import Walker, a_program, going_on, with_places
from samplers import (DROP, MARK, PASS, a_packet, at, choice, counter, loop, pair, put, row, six_marks, solo,
                      some_fields, take, walk)
from test_courses import NO_PACKETS
from test_programs import raised
from values import NO_PLACES, no_programs


class StepsAndEnds(unittest.TestCase):
    def check(self, program, place, packet, marked, last):
        self.assertEqual(steps(program, place, packet), marked, (program.tree, place, packet))
        self.assertEqual(ends(program, place, packet), last, (program.tree, place, packet))

    def test_in_a_row(self):
        program = pair(row(put("a", 1), MARK, put("a", 2), MARK, take("b", "a")))
        self.check(program, 0, (7, 8), [(1, (1, 8))], [])
        self.check(program, 1, (7, 8), [(2, (2, 8))], [])
        self.check(program, 2, (7, 8), [], [(7, 7)])

    def test_in_a_choice(self):
        program = pair(row(choice(MARK, row(MARK, put("a", 5)), put("a", 6)), put("b", 4)))
        self.check(program, 0, (7, 8), [(1, (7, 8)), (2, (7, 8))], [(6, 4)])
        self.check(program, 1, (7, 8), [], [(7, 4)])
        self.check(program, 2, (7, 8), [], [(5, 4)])

    def test_in_a_loop(self):
        program = pair(row(loop(row(MARK, put("a", 5), MARK)), put("b", 4), MARK))
        self.check(program, 0, (7, 8), [(1, (7, 8)), (3, (7, 4))], [])
        self.check(program, 1, (7, 8), [(2, (5, 8))], [])
        self.check(program, 2, (7, 8), [(1, (7, 8)), (3, (7, 4))], [])
        self.check(program, 3, (7, 8), [], [(7, 8)])

    def test_in_a_loop_in_a_loop(self):
        program = solo(loop(row(loop(row(at("a", 1), MARK, choice(PASS, put("a", 2)))), put("a", 1), MARK)))
        self.check(program, 0, (1,), [(1, (1,)), (2, (1,))], [(1,)])
        self.check(program, 0, (9,), [(2, (1,))], [(9,)])
        self.check(program, 1, (1,), [(1, (1,)), (2, (1,))], [])
        self.check(program, 1, (9,), [(2, (1,))], [])
        self.check(program, 2, (9,), [(2, (1,))], [(9,)])

    def test_without_marks(self):
        self.check(solo(loop(choice(put("a", 3), put("a", 2)))), 0, (9,), [], [(2,), (3,), (9,)])
        self.check(solo(DROP), 0, (9,), [], [])

    def test_they_ascend_and_stand_once(self):
        program = pair(loop(choice(row(put("b", 9), MARK), row(put("b", 1), choice(MARK, PASS)), row(put("b", 1), PASS),
                                   row(MARK, MARK))))
        told = [(1, (0, 9)), (2, (0, 1)), (3, (0, 0)), (3, (0, 1))]
        self.check(program, 0, (0, 0), told, [(0, 0), (0, 1)])

    def test_a_step_from_which_no_end_is_come_to_is_none(self):
        self.check(solo(row(MARK, DROP)), 0, (1,), [], [])
        self.check(solo(choice(row(MARK, MARK, at("a", 2)), loop(row(MARK, put("a", 3))))), 0, (1,),
                   [(3, (1,))], [(1,)])
        self.check(solo(choice(row(MARK, MARK, at("a", 2)), MARK)), 1, (1,), [], [])
        self.check(solo(choice(row(MARK, MARK, at("a", 2)), MARK)), 1, (2,), [(2, (2,))], [])
        self.check(solo(row(loop(row(MARK, put("a", 2))), at("a", 1))), 0, (1,), [], [(1,)])
        self.check(counter(8), 0, (0,), [(1, (2,))], [])
        self.check(counter(8), 1, (9,), [], [])
        self.check(solo(row(loop(row(MARK, choice(DROP, row(at("a", 5), put("a", 6))))), at("a", 6))), 0, (5,),
                   [(1, (5,))], [])

    def test_a_place_with_a_packet_that_is_never_there(self):
        self.check(pair(row(put("a", 1), MARK, put("b", 2))), 1, (10 ** 12, 77), [], [(10 ** 12, 2)])

    def test_the_first_program_of_the_document(self):
        self.check(walk(), 1, (1, 7), [(2, (2, 7))], [(2, 7)])
        self.check(walk(), 2, (2, 7), [(1, (1, 2))], [(1, 2)])

    def test_each_place_of_programs_with_up_to_six_marks(self):
        chance = random.Random(27)
        counts = dict.fromkeys(range(7), 0)
        while min(counts.values()) < 8:
            fields = some_fields(chance)
            program = a_program(chance, fields, [0, 1, 5], chance.choice((3, 4, 5, 6)))
            counts[program.marks] += 1
            if counts[program.marks] <= 30:
                self.compare(program, [a_packet(chance, fields, [0, 1, 5, 77, 8]) for _ in range(2)])
        self.compare(six_marks(), samples(["a", "b"], [0, 1, 2, 3]))

    def compare(self, program, packets):
        walker = Walker(program)
        for packet in packets:
            for place in range(program.marks + 1):
                self.check(program, place, packet, walker.steps(place, packet), walker.ends(place, packet))

    def test_as_point_24_says(self):
        chance = random.Random(28)
        for _ in range(60):
            fields = some_fields(chance)
            program = a_program(chance, fields, [0, 1], chance.choice((3, 4)))
            tree, packet = with_places(program.tree)[0], a_packet(chance, fields, [0, 1, 77])
            for place in range(program.marks + 1):
                found = going_on(program.fields, tree, place, packet, 1)
                told = sorted(end for entries, end in found if not entries)
                self.assertEqual(ends(program, place, packet), sorted(set(told)))
                self.assertLessEqual({entries[0] for entries, _ in found if entries},
                                     set(steps(program, place, packet)))

    def test_new_lists(self):
        program = walk()
        steps(program, 0, (1, 7)).append(1)
        ends(program, 0, (1, 7)).append(1)
        self.check(program, 0, (1, 7), [(1, (1, 7))], [(1, 7)])

    def test_wrong_arguments_in_their_order(self):
        program = pair(row(MARK, MARK))
        for work in (steps, ends):
            for thing in no_programs():
                self.assertEqual(raised(BadProgram, work, thing, None, None).part, "program")
            for place in NO_PLACES + [3, 4, program]:
                error = raised(NoPlace, work, program, place, None)
                self.assertEqual(error.place, place)
                self.assertIs(error.place.__class__, place.__class__)
            self.assertEqual(raised(NoPlace, work, pair(PASS), 1, (1, 2)).place, 1)
            for place in (0, 1, 2):
                for packet in NO_PACKETS:
                    self.assertEqual(raised(BadPacket, work, program, place, packet).packet, packet)


if __name__ == "__main__":
    unittest.main()
