import random
import unittest

from markedways.errors import BadMost, BadPacket, BadProgram
from markedways.packets import samples
from markedways.ways import ends, is_way, steps, ways
from oracle import a_program, all_ways_to, ends as all_ends
from samplers import (DROP, MARK, PASS, a_packet, at, choice, counter, loop, odometer, pair, put, row, six_marks, solo,
                      some_fields, take, walk)
from test_courses import NO_PACKETS
from test_programs import raised
from values import NO_MOSTS, no_programs, odd_values


class Ways(unittest.TestCase):
    def test_each_kind_of_tree(self):
        for tree, found in (
                (PASS, [((1, 7),)]), (DROP, []), (MARK, [((1, 7), (1, 7))]), (at("a", 1), [((1, 7),)]),
                (at("a", 7), []), (("not", at("a", 7)), [((1, 7),)]), (put("a", 3), [((3, 7),)]),
                (take("a", "b"), [((7, 7),)]), (take("b", "a"), [((1, 1),)]),
                (row(MARK, put("b", 2), MARK), [((1, 7), (1, 2), (1, 2))]),
                (row(put("b", 2), MARK, put("a", 0)), [((1, 2), (0, 2))]),
                (choice(put("a", 5), put("a", 4), MARK), [((4, 7),), ((5, 7),), ((1, 7), (1, 7))]),
                (loop(put("a", 0)), [((0, 7),), ((1, 7),)]),
                (choice(MARK, row(MARK, MARK), row(MARK, MARK, MARK)),
                 [((1, 7),) * 2, ((1, 7),) * 3, ((1, 7),) * 4])):
            with self.subTest(tree):
                self.assertEqual(ways(pair(tree), (1, 7), 6), found)

    def test_each_bound(self):
        program = solo(loop(row(MARK, choice(PASS, put("a", 2)))))
        self.assertEqual(ways(program, (1,), 0), [((1,),)])
        self.assertEqual(ways(program, (1,), 1), [((1,),), ((1,), (1,)), ((1,), (2,))])
        self.assertEqual(ways(program, (1,), 2)[3:], [((1,), (1,), (1,)), ((1,), (1,), (2,)), ((1,), (2,), (2,))])
        for most in range(7):
            with self.subTest(most):
                found = ways(program, (1,), most)
                self.assertEqual(len(found), sum(many + 1 for many in range(most + 1)))
                self.assertEqual(found, [way for way in ways(program, (1,), 6) if len(way) <= most + 1])
                self.assertEqual(found, all_ways_to(program, (1,), most))

    def test_fewer_marks_first_then_ascending(self):
        program = pair(choice(row(put("a", 9), MARK, put("a", 0)), row(put("a", 8), MARK, put("a", 7)), put("b", 99),
                              put("b", 98), row(put("a", 8), MARK, put("a", 6)), row(MARK, MARK, put("a", 0))))
        self.assertEqual(ways(program, (9, 9), 6), [
            ((9, 98),), ((9, 99),), ((8, 9), (6, 9)), ((8, 9), (7, 9)), ((9, 9), (0, 9)), ((9, 9), (9, 9), (0, 9))])

    def test_several_courses_with_one_way_are_told_once(self):
        program = solo(choice(MARK, row(MARK, PASS), loop(MARK), row(put("a", 1), MARK), loop(loop(MARK))))
        self.assertEqual(ways(program, (1,), 2), [((1,),), ((1,), (1,)), ((1,), (1,), (1,))])

    def test_loops_in_which_nothing_is_written_down(self):
        self.assertEqual(ways(solo(loop(PASS)), (4,), 6), [((4,),)])
        self.assertEqual(ways(solo(loop(loop(put("a", 1)))), (4,), 6), [((1,),), ((4,),)])
        program = solo(row(loop(choice(PASS, put("a", 1))), MARK, loop(choice(row(at("a", 1), put("a", 2)), DROP))))
        self.assertEqual(ways(program, (4,), 6), [((1,), (1,)), ((1,), (2,)), ((4,), (4,))])

    def test_loops_in_loops(self):
        inner = loop(row(at("a", 1), MARK))
        program = solo(loop(row(inner, choice(put("a", 1), put("a", 2)), MARK)))
        self.assertEqual(ways(program, (0,), 2), all_ways_to(program, (0,), 2))
        self.assertEqual(ways(program, (0,), 1), [((0,),), ((1,), (1,)), ((2,), (2,))])
        self.assertEqual(ways(program, (0,), 2)[3:], [
            ((1,), (1,), (1,)), ((1,), (2,), (2,)), ((2,), (1,), (1,)), ((2,), (2,), (2,))])

    def test_marks_ahead_of_drop_make_no_ways(self):
        self.assertEqual(ways(solo(row(MARK, DROP)), (1,), 6), [])
        self.assertEqual(ways(solo(row(loop(MARK), at("a", 2))), (1,), 6), [])
        self.assertEqual(ways(solo(choice(row(MARK, MARK, DROP), loop(row(MARK, DROP)))), (1,), 6), [((1,),)])

    def test_numbers_that_are_nowhere_named(self):
        program = pair(loop(row(("not", at("a", 5)), MARK, take("a", "b"), put("b", 5))))
        self.assertEqual(ways(program, (10 ** 12, 77), 6), [
            ((10 ** 12, 77),), ((10 ** 12, 77), (77, 5)), ((10 ** 12, 77), (77, 5), (5, 5))])
        self.assertEqual(ways(program, (5, 5), 6), [((5, 5),)])

    def test_endless_ways_up_to_the_bound(self):
        self.assertEqual([len(way) for way in ways(solo(loop(MARK)), (1,), 6)], [1, 2, 3, 4, 5, 6, 7])
        self.assertEqual(ways(odometer(8), (0, 0, 0), 6), [])
        self.assertEqual(ways(counter(8), (0,), 6), [])
        self.assertEqual(ways(counter(7), (0,), 6), [tuple((number,) for number in (2, 3, 4, 5, 6, 7, 7))])

    def test_the_example_of_the_document(self):
        self.assertEqual(ways(walk(), (1, 7), 2), [((1, 7),), ((1, 7), (2, 7)), ((1, 7), (2, 7), (1, 2))])

    def test_as_point_22_says(self):
        chance = random.Random(23)
        done = 0
        while done < 200:
            fields = some_fields(chance)
            program = a_program(chance, fields, [0, 1, 5], chance.choice((2, 3, 4, 5)))
            packet, most = a_packet(chance, fields, [0, 1, 5, 77, 8]), chance.choice((0, 1, 2, 3))
            found = ways(program, packet, most)
            if program.marks and len(found) <= 100:
                done += 1
                self.assertEqual(found, all_ways_to(program, packet, most), (program.tree, packet, most))

    def test_a_new_list_each_time(self):
        program = walk()
        found = ways(program, (1, 7), 2)
        found.clear()
        self.assertEqual(len(ways(program, (1, 7), 2)), 3)

    def test_wrong_arguments(self):
        program = six_marks()
        for thing in no_programs() + [program.tree, (program,), [program]]:
            self.assertEqual(raised(BadProgram, ways, thing, None, None).part, "program")
        for packet in NO_PACKETS:
            self.assertEqual(raised(BadPacket, ways, program, packet, 7).packet, packet)
        for most in NO_MOSTS + [7, 8, program]:
            error = raised(BadMost, ways, program, (1, 2), most)
            self.assertEqual(error.most, most)
            self.assertIs(error.most.__class__, most.__class__)


class IsWay(unittest.TestCase):
    def judge(self, program, packet, thing):
        answer = is_way(program, packet, thing)
        self.assertIsInstance(answer, bool)
        return answer

    def test_each_way_and_nothing_near_it(self):
        chance = random.Random(24)
        for _ in range(150):
            fields = some_fields(chance)
            program = a_program(chance, fields, [0, 1, 5], chance.choice((3, 4, 5)))
            packet = a_packet(chance, fields, [0, 1, 5, 77])
            found = ways(program, packet, 2)
            for way in chance.sample(found, min(5, len(found))):
                self.assertTrue(self.judge(program, packet, way))
                near = list(way)
                for _ in range(chance.choice((1, 2))):
                    near[chance.randrange(len(near))] = a_packet(chance, fields, [0, 1, 5, 77, 8])
                self.assertIs(self.judge(program, packet, tuple(near)), tuple(near) in found)
                for longer in (way + way[-1:], way[:1] + way):
                    self.assertIs(self.judge(program, packet, longer), longer in ways(program, packet, 3))
                self.assertIs(self.judge(program, packet, way[1:]), way[1:] in found)

    def test_much_longer_ones(self):
        program = walk()
        for rounds in range(20):
            way = ((1, 7), (2, 7)) + ((1, 2), (2, 2)) * (rounds - 1) if rounds else ()
            self.assertTrue(self.judge(program, (1, 7), (*way, (1, 2) if rounds else (1, 7))))
            self.assertFalse(self.judge(program, (1, 7), (*way, (1, 3))))
        for many in (8, 20, 39):
            self.assertTrue(self.judge(solo(loop(MARK)), (1,), ((1,),) * (many + 1)))
            self.assertFalse(self.judge(solo(loop(row(MARK, MARK))), (1,), ((1,),) * (many // 2 * 2)))
        told = tuple((number,) for number in range(2, 9))
        self.assertTrue(self.judge(counter(8), (0,), told + ((8,),)))
        self.assertFalse(self.judge(counter(8), (0,), told))

    def test_with_rounds_of_a_loop_put_in(self):
        program = pair(row(MARK, loop(row(put("a", 1), MARK, put("a", 2), MARK)), take("b", "a"), MARK))
        for rounds in range(19):
            way = ((0, 7),) + ((1, 7), (2, 7)) * rounds + (((2, 2),) * 2 if rounds else ((0, 0),) * 2)
            self.assertTrue(self.judge(program, (0, 7), way))
            self.assertFalse(self.judge(program, (0, 7), way[:1] + ((1, 7),) + way[1:]))
            self.assertFalse(self.judge(program, (0, 7), way + way[-1:]))

    def test_what_is_written_where_no_end_is_come_to(self):
        self.assertFalse(self.judge(solo(row(MARK, DROP)), (1,), ((1,),)))
        self.assertFalse(self.judge(solo(row(MARK, DROP)), (1,), ((1,), (1,))))

    def test_lists_in_the_place_of_tuples_and_true_in_the_place_of_1(self):
        program = pair(loop(MARK))
        self.assertTrue(self.judge(program, (1, 0), ((1, 0), (1, 0))))
        for thing in ([(1, 0), (1, 0)], ([1, 0], (1, 0)), ((1, 0), [1, 0]), ((True, 0), (1, 0)), ((1, False), (1, 0)),
                      ((1, 0), (1, False)), ((1, 0), (True, 0)), ((True, False),)):
            self.assertFalse(self.judge(program, (1, 0), thing), thing)

    def test_other_lengths_and_other_kinds(self):
        program = pair(loop(MARK))
        for thing in ((), ((),), ((1,),), ((1, 0, 0),), ((1, 0), (1,)), ((1,), (1, 0)), (1, 0), ((1, 0), ()),
                      ((1, -1),),
                      ((1, 0), None), ((1, 0), 1), (("1", "0"),), {(1, 0): (1, 0)}, "10", (((1, 0),),), ((1, 0), {}),
                      ((1, {}),), ((1, 0), program), ((program, program),), ((10 ** 99, 0),), ((1, 10 ** 99), (1, 0))):
            self.assertFalse(self.judge(program, (1, 0), thing), thing)
        for thing in odd_values() + NO_PACKETS:
            self.assertFalse(self.judge(program, (1, 0), thing))

    def test_greater_numbers_than_may_be_passed(self):
        self.assertTrue(self.judge(solo(put("a", 10 ** 12)), (1,), ((10 ** 12,),)))
        self.assertFalse(self.judge(solo(put("a", 1)), (1,), ((10 ** 90,),)))

    def test_wrong_arguments(self):
        for thing in no_programs():
            self.assertEqual(raised(BadProgram, is_way, thing, None, ()).part, "program")
        for packet in NO_PACKETS:
            self.assertEqual(raised(BadPacket, is_way, six_marks(), packet, ((1, 2),)).packet, packet)


class Together(unittest.TestCase):
    def derived(self, program, packet, most):
        """The ways that come of the steps from the place 0 on and the ends behind them."""
        found, waiting = [], [((), 0, packet)]
        while waiting:
            written, place, now = waiting.pop()
            found.extend(written + (end,) for end in ends(program, place, now))
            if len(written) < most:
                waiting.extend((written + (told,), mark, told) for mark, told in steps(program, place, now))
        return sorted(set(found), key=lambda way: (len(way), way))

    def test_the_ways_are_what_comes_of_steps_and_ends(self):
        chance = random.Random(25)
        for _ in range(60):
            fields = some_fields(chance)
            program = a_program(chance, fields, [0, 1], chance.choice((3, 4, 5)))
            packet = a_packet(chance, fields, [0, 1, 77])
            if len(ways(program, packet, 2)) < 60:
                self.assertEqual(self.derived(program, packet, 2), ways(program, packet, 2), (program.tree, packet))
        self.assertEqual(self.derived(six_marks(), (0, 7), 3), ways(six_marks(), (0, 7), 3))

    def test_the_ends_of_all_ways_are_those_of_the_program_called(self):
        chance = random.Random(26)
        for _ in range(100):
            fields = some_fields(chance)
            program = a_program(chance, fields, [0, 1], chance.choice((3, 4, 5)))
            for packet in samples(fields, [0, 1])[:4]:
                last = program(packet)
                self.assertEqual(set(last), all_ends(program.fields, program.tree, packet))
                self.assertLessEqual({way[-1] for way in ways(program, packet, 2)}, set(last))
        program = six_marks()
        for packet in samples(["a", "b"], program.numbers):
            self.assertEqual(sorted({way[-1] for way in ways(program, packet, 6)}), program(packet))


if __name__ == "__main__":
    unittest.main()
