import copy
import random
import unittest

from markedways.errors import BadMost, BadNumbers, BadPacket, BadProgram, TooMany
from markedways.likeness import alike
from markedways.machines import least_machine, machine_ways
from markedways.packets import samples
from markedways.programs import Program
from markedways.ways import ways
from oracle import Walker
from samplers import (DROP, MARK, PASS, a_pair, at, choice, counter, loop, odometer, pair, put, row, six_marks, solo,
                      take, trio, walk)
from test_packets import NO_NUMBERS
from test_programs import raised
from test_tables import reordered
from values import NO_MOSTS, no_programs, odd_values


class LeastMachine(unittest.TestCase):
    def test_programs_without_marks(self):
        self.assertEqual(least_machine(solo(PASS)), ({(0,): 0}, [(((0,),), ())]))
        self.assertEqual(least_machine(solo(DROP)), ({(0,): None}, []))
        self.assertEqual(least_machine(solo(choice(put("a", 3), at("a", 5)))),
                         ({(0,): 0, (3,): 0, (5,): 1}, [(((3,),), ()), (((3,), (5,)), ())]))

    def test_packets_with_the_same_standing_have_one_state(self):
        program = pair(row(put("a", 1), put("b", 2), MARK))
        starts, states = least_machine(program)
        self.assertEqual(list(starts), samples(["a", "b"], [1, 2]))
        self.assertEqual(set(starts.values()), {0})
        self.assertEqual(states, [((), (((1, 2), 1),)), (((1, 2),), ())])

    def test_loops(self):
        self.assertEqual(least_machine(solo(loop(MARK))), ({(0,): 0}, [(((0,),), (((0,), 0),))]))
        self.assertEqual(least_machine(solo(loop(row(MARK, MARK)))),
                         ({(0,): 0}, [(((0,),), (((0,), 1),)), ((), (((0,), 0),))]))
        self.assertEqual(least_machine(solo(loop(row(put("a", 1), MARK)))), (
            {(0,): 0, (1,): 1}, [(((0,),), (((1,), 1),)), (((1,),), (((1,), 1),))]))

    def test_samples_without_ways_have_none(self):
        starts, states = least_machine(solo(choice(at("a", 4), row(at("a", 3), MARK, at("a", 4)))))
        self.assertEqual(starts, {(0,): None, (3,): None, (4,): 0})
        self.assertEqual(states, [(((4,),), ())])

    def test_states_in_the_order_in_which_they_are_met(self):
        program = solo(choice(row(at("a", 2), MARK, choice(row(put("a", 1), MARK, put("a", 8)), put("a", 5))),
                              row(at("a", 1), choice(row(put("a", 6), MARK, put("a", 7)), row(put("a", 5), MARK)))))
        starts, states = least_machine(program)
        self.assertEqual(starts, {(0,): None, (1,): 0, (2,): 1, (5,): None, (6,): None, (7,): None, (8,): None})
        self.assertEqual(states, [((), (((5,), 2), ((6,), 3))), ((), (((2,), 4),)), (((5,),), ()), (((7,),), ()),
                                  (((5,),), (((1,), 5),)), (((8,),), ())])

    def test_packets_that_are_no_samples_stand_in_states_only(self):
        starts, states = least_machine(pair(row(take("b", "a"), MARK)))
        self.assertEqual(starts, {(0, 1): 0})
        self.assertEqual(states, [((), (((0, 0), 1),)), (((0, 0),), ())])

    def test_the_first_program_of_the_document(self):
        starts, states = least_machine(walk())
        self.assertEqual(starts, {(0, 1): 0, (0, 2): 1, (0, 3): 2, (1, 1): 3, (1, 2): 4, (1, 3): 5, (2, 1): 6,
                                  (2, 2): 7, (2, 3): 8})
        self.assertEqual(states[3:6], [(((1, 1),), (((1, 1), 6),)), (((1, 2),), (((1, 2), 7),)),
                                       (((1, 3),), (((1, 3), 8),))])
        self.assertEqual(states[6:], [(((2, 1),), (((2, 1), 4),)), (((2, 2),), (((2, 2), 4),)),
                                      (((2, 3),), (((2, 3), 4),))])

    def test_kinds_of_what_is_returned(self):
        starts, states = least_machine(walk())
        self.assertIsInstance(least_machine(walk()), tuple)
        self.assertIsInstance(starts, dict)
        self.assertIsInstance(states, list)
        for state in states:
            self.assertIsInstance(state, tuple)
            self.assertTrue(all(isinstance(part, tuple) for part in state))
            self.assertTrue(all(isinstance(move, tuple) and len(move) == 2 for move in state[1]))

    def test_new_each_time(self):
        program = walk()
        starts, states = least_machine(program)
        starts.clear()
        states.clear()
        self.assertEqual([len(part) for part in least_machine(program)], [9, 9])

    def test_told_numbers(self):
        program = solo(at("a", 4))
        self.assertEqual(least_machine(program, []), least_machine(program))
        self.assertEqual(least_machine(program, ()), least_machine(program))
        self.assertEqual(least_machine(program, (4,)), least_machine(program))
        for numbers in ([0, 9], (9, 0), [4, 9, 0], (0, 9, 4)):
            self.assertEqual(least_machine(program, numbers), ({(0,): None, (1,): None, (4,): 0, (9,): None},
                                                               [(((4,),), ())]))
        self.assertEqual(least_machine(program=program, numbers=[10 ** 12])[0],
                         {(0,): None, (4,): 0, (10 ** 12,): None})
        self.assertEqual(len(least_machine(program, [1, 2, 3, 4, 5, 6, 7, 8])[0]), 9)
        self.assertEqual(len(least_machine(program, [1, 2, 3, 5, 6, 7, 8])[0]), 9)

    def test_the_numbers_that_are_passed_stay(self):
        numbers = [7, 3]
        found = least_machine(solo(PASS), numbers)
        self.assertEqual(numbers, [7, 3])
        numbers.append(5)
        self.assertEqual(list(found[0]), [(0,), (3,), (7,)])

    def test_wrong_arguments(self):
        for thing in no_programs():
            self.assertEqual(raised(BadProgram, least_machine, thing, None).part, "program")
            self.assertEqual(raised(BadProgram, least_machine, thing).part, "program")
        eight = solo(choice(*[at("a", number) for number in range(1, 9)]))
        for numbers in NO_NUMBERS + [[1, 1], (2, 3, 2), [True], [0, False], [-1], list(range(9)), None, 3, {1: 1}]:
            raised(BadNumbers, least_machine, eight, numbers)
        for numbers in ([0], [1, 2, 3, 4, 5, 6, 7, 9], (10 ** 12,)):
            error = raised(TooMany, least_machine, eight, numbers)
            self.assertEqual((error.what, error.most), ("numbers", 8))
        self.assertEqual(len(least_machine(eight, [8, 7, 6, 5, 4, 3, 2, 1])[0]), 9)
        raised(TooMany, least_machine, solo(at("a", 0)), [1, 2, 3, 4, 5, 6, 7, 8])


class Least(unittest.TestCase):
    def check(self, program, numbers):
        machine = least_machine(program, numbers)
        self.assertEqual(machine, least_machine(program, numbers[::-1]))
        starts, states = machine
        self.assertEqual(list(starts), samples(program.fields, sorted({*program.numbers, *numbers})))
        self.check_order(starts, states)
        self.check_that_all_are_different(states)
        walker = Walker(program)
        for packet, number in starts.items():
            self.assertIs(number is None, not walker.is_live((0, packet)))
        return machine

    def check_order(self, starts, states):
        met = list(dict.fromkeys(number for number in starts.values() if number is not None))
        for number in met:
            last, moves = states[number]
            self.assertEqual(last, tuple(sorted(set(last))))
            self.assertEqual([packet for packet, _ in moves], sorted({packet for packet, _ in moves}))
            met.extend(to for to in dict.fromkeys(to for _, to in moves) if to not in met)
        self.assertEqual(met, list(range(len(states))))

    def check_that_all_are_different(self, states):
        """No two states have the same ways, and each has some."""
        kinds, live = [0] * len(states), [bool(last) for last, _ in states]
        for _ in states:
            signs = [(last, tuple((packet, kinds[to]) for packet, to in moves)) for last, moves in states]
            order = sorted(set(signs))
            kinds = [order.index(sign) for sign in signs]
            live = [some or any(live[to] for _, to in state[1]) for some, state in zip(live, states)]
        self.assertEqual(len(set(kinds)), len(states))
        self.assertTrue(all(live))

    def test_each_machine_is_one_and_makes_the_ways(self):
        chance = random.Random(51)
        for _ in range(120):
            one, _ = a_pair(chance)
            numbers = chance.sample([0, 1, 2, 5, 9], chance.choice((0, 0, 1, 3)))
            machine = self.check(one, numbers)
            for packet in chance.sample(list(machine[0]), min(len(machine[0]), 6)):
                for most in (0, 1, 2):
                    self.assertEqual(machine_ways(machine, packet, most), ways(one, packet, most), one.tree)

    def test_equal_exactly_if_the_programs_are_alike(self):
        chance = random.Random(52)
        counts = {True: 0, False: 0}
        for _ in range(200):
            one, other = a_pair(chance)
            numbers = sorted(set(one.numbers + other.numbers))
            answer = least_machine(one, numbers) == least_machine(other, numbers)
            self.assertIs(answer, alike(one, other), (one.tree, other.tree))
            counts[answer] += 1
        self.assertGreater(min(counts.values()), 50)

    def test_programs_that_are_written_otherwise(self):
        for tree in (six_marks().tree, loop(choice(row(MARK, put("a", 1)), row(at("b", 2), MARK)))):
            one, two = pair(tree), pair(reordered(tree))
            self.assertEqual(least_machine(one), least_machine(two))
            self.check(one, [])
        self.check(pair(row(loop(tree), loop(tree))), [7])
        one = row(put("a", 1), MARK)
        self.assertEqual(least_machine(solo(loop(one))), least_machine(solo(choice(PASS, row(one, loop(one))))))
        self.assertNotEqual(least_machine(solo(loop(one)))[1], least_machine(solo(row(one, loop(one))))[1])

    def test_big_ones(self):
        starts, states = self.check_order_of(odometer(8))
        self.assertEqual((len(starts), len(states), set(starts.values())), (729, 512, {0}))
        starts, states = self.check_order_of(counter(8))
        self.assertEqual((len(starts), len(states)), (9, 8))
        anything = choice(*[put(field, number) for field in "abc" for number in range(1, 5)])
        starts, states = self.check_order_of(trio(loop(row(loop(anything), MARK))))
        self.assertEqual(len(starts), 125)

    def check_order_of(self, program):
        starts, states = least_machine(program)
        self.check_order(starts, states)
        return starts, states


class MachineWays(unittest.TestCase):
    def test_as_ways_for_every_sample_and_every_bound(self):
        for program in (walk(), counter(7), solo(loop(MARK)), solo(DROP),
                        solo(loop(row(MARK, choice(PASS, put("a", 2))))),
                        pair(choice(row(put("a", 9), MARK, put("a", 0)), put("b", 99), row(MARK, MARK, put("a", 0)),
                                    row(put("a", 8), MARK, put("a", 7)), put("b", 98)))):
            machine = least_machine(program, [3])
            for packet in machine[0]:
                for most in range(7):
                    found = machine_ways(machine, packet, most)
                    self.assertEqual(found, ways(program, packet, most))
                    self.assertIsInstance(found, list)

    def test_six_marks(self):
        machine = least_machine(six_marks())
        for packet in machine[0]:
            for most in range(5):
                self.assertEqual(machine_ways(machine, packet, most), ways(six_marks(), packet, most))

    def test_no_ways(self):
        self.assertEqual(machine_ways(least_machine(solo(DROP)), (0,), 6), [])
        self.assertEqual(machine_ways(least_machine(solo(row(MARK, put("a", 1)))), (0,), 0), [])

    def test_the_machine_stays_and_lists_are_new(self):
        machine = least_machine(walk())
        kept = copy.deepcopy(machine)
        machine_ways(machine, (1, 1), 3).clear()
        self.assertEqual(machine, kept)
        self.assertEqual(len(machine_ways(machine, (1, 1), 3)), 4)

    def test_by_name(self):
        machine = least_machine(walk())
        self.assertEqual(machine_ways(most=1, packet=(1, 1), machine=machine), [((1, 1),), ((1, 1), (2, 1))])

    def test_what_is_no_sample(self):
        machine = least_machine(pair(row(at("a", 1), MARK)))
        self.assertEqual(list(machine[0]), [(0, 1), (0, 2), (1, 1), (1, 2)])
        for packet in odd_values() + [(2, 1), (0, 0), (1, 0), (1, 3), (1,), (1, 1, 1), (True, 1), (1, True), (False, 1),
                                      [1, 1], ([1], 1), (1, {}), ((1, 1),), (1, None), "11", (1, "1"), (10 ** 99, 1)]:
            for most in (0, None):
                error = raised(BadPacket, machine_ways, machine, packet, most)
                self.assertEqual(error.packet, packet)
                self.assertIs(error.packet.__class__, packet.__class__)

    def test_wrong_bounds(self):
        machine = least_machine(pair(row(at("a", 1), MARK)))
        for packet in machine[0]:
            for most in NO_MOSTS + [7]:
                error = raised(BadMost, machine_ways, machine, packet, most)
                self.assertEqual(error.most, most)
                self.assertIs(error.most.__class__, most.__class__)


if __name__ == "__main__":
    unittest.main()
