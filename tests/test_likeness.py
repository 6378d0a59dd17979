import itertools
import random
import unittest

from markedways.likeness import alike, beyond, has_ways, parting, table, within
from markedways.packets import samples
from markedways.programs import Program
from markedways.ways import ways
from oracle import Walker, keeps_the_rules
from samplers import (DROP, MARK, PASS, a_pair, at, choice, counter, loop, odometer, pair, put, row, six_marks, solo,
                      take, trio, walk)

A, B, C = row(at("a", 1), MARK), row(put("a", 2), MARK), row(MARK, take("a", "b"))

# Alike, but written otherwise.
SAME = [
    (PASS, PASS), (DROP, DROP), (DROP, row(MARK, DROP)), (DROP, row(PASS, DROP)), (DROP, ("not", PASS)),
    (PASS, loop(DROP)), (PASS, loop(PASS)), (PASS, choice(at("a", 1), ("not", at("a", 1)))),
    (row(A, B, C), row(A, row(B, C))), (row(A, B, C), row(row(A, B), C)), (row(A, B), row(A, PASS, B)),
    (choice(A, B, C), choice(choice(C, B), A)), (choice(A, B), choice(B, A, A)), (choice(A, B), choice(A, B, DROP)),
    (row(A, choice(B, C)), choice(row(A, B), row(A, C))), (row(choice(A, B), C), choice(row(B, C), row(A, C))),
    (loop(A), choice(PASS, row(A, loop(A)))), (loop(A), choice(row(loop(A), A), PASS)), (loop(A), loop(loop(A))),
    (loop(choice(A, B)), row(loop(A), loop(row(B, loop(A))))), (loop(A), row(loop(A), loop(A))),
    (loop(C), choice(loop(row(C, C)), row(C, loop(row(C, C))))), (row(A, loop(row(B, A))), row(loop(row(A, B)), A)),
    (row(put("a", 1), at("a", 1)), put("a", 1)), (row(put("a", 1), at("a", 2)), DROP),
    (row(put("a", 1), put("a", 2)), put("a", 2)), (row(put("a", 1), put("b", 2)), row(put("b", 2), put("a", 1))),
    (row(put("b", 3), take("a", "b")), row(put("a", 3), take("b", "a"))),
    (row(take("a", "b"), take("b", "a")), take("a", "b")),
    (row(put("b", 5), take("a", "b"), put("b", 5)), row(put("b", 5), put("a", 5))),
    (row(at("a", 1), put("a", 1)), at("a", 1)),
    (row(at("a", 1), at("b", 1), take("a", "b")), row(at("b", 1), at("a", 1))),
    (row(MARK, at("a", 1)), row(at("a", 1), MARK)), (row(put("a", 4), MARK, put("a", 4)), row(put("a", 4), MARK)),
    (row(MARK, MARK, at("a", 5)), row(at("a", 5), MARK, loop(DROP), MARK)),
    (choice(row(MARK, MARK), row(MARK, put("a", 1))), row(MARK, choice(MARK, put("a", 1)))),
]

# The first is within the second one, not the other way round.
LESS = [
    (DROP, PASS), (DROP, MARK), (at("a", 1), PASS), (at("a", 1), choice(at("a", 1), at("b", 1))), (PASS, loop(MARK)),
    (MARK, loop(MARK)), (loop(row(MARK, MARK)), loop(MARK)), (row(A, B), loop(choice(A, B))),
    (choice(loop(A), loop(B)), loop(choice(A, B))), (row(at("a", 5), MARK), MARK),
    (row(MARK, ("not", at("b", 6))), MARK),
    (put("a", 1), loop(put("a", 1))), (row(at("a", 1), put("b", 2)), choice(put("b", 2), put("b", 3))),
    (row(loop(row(MARK, put("a", 2))), at("a", 1)), choice(PASS, row(at("a", 1), put("a", 2)))),
]

# Neither is within the other one.
APART = [
    (PASS, MARK), (MARK, row(MARK, MARK)), (at("a", 1), ("not", at("a", 1))), (at("a", 1), at("b", 1)),
    (put("a", 1), put("a", 2)), (put("a", 1), put("b", 1)), (take("a", "b"), take("b", "a")), (PASS, take("a", "b")),
    (row(MARK, put("a", 1)), row(put("a", 1), MARK)), (row(C, B), row(B, C)),
    (loop(row(MARK, put("a", 1))), row(MARK, MARK)),
    (row(at("a", 9), MARK), at("a", 9)), (put("a", 7), row(put("a", 7), put("b", 7))),
]


class Told(unittest.TestCase):
    def both(self, one, other):
        return alike(one, other), within(one, other), within(other, one)

    def test_alike_and_written_otherwise(self):
        for one, other in SAME:
            with self.subTest(one=one, other=other):
                self.assertEqual(self.both(pair(one), pair(other)), (True, True, True))
                self.assertIsNone(parting(pair(one), pair(other)))
                self.assertIsNone(beyond(pair(one), pair(other)))

    def test_within_only(self):
        for one, other in LESS:
            with self.subTest(one=one, other=other):
                self.assertEqual(self.both(pair(one), pair(other)), (False, True, False))
                self.assertEqual(self.both(pair(other), pair(one)), (False, False, True))
                self.assertIsNone(beyond(pair(one), pair(other)))
                self.assertEqual(parting(pair(one), pair(other)), (*beyond(pair(other), pair(one)), 1))

    def test_apart(self):
        for one, other in APART:
            with self.subTest(one=one, other=other):
                self.assertEqual(self.both(pair(one), pair(other)), (False, False, False))

    def test_answers_are_bools(self):
        for one, other in SAME[:3] + LESS[:3] + APART[:3]:
            for work in (alike, within):
                self.assertIsInstance(work(pair(one), pair(other)), bool)
            self.assertIsInstance(has_ways(pair(one)), bool)

    def test_programs_that_differ_for_a_number_that_nobody_names(self):
        one, other = pair(choice(at("a", 1), at("a", 2))), pair(choice(at("a", 1), at("a", 2), at("a", 3)))
        self.assertEqual(parting(one, other), ((3, 1), ((3, 1),), 1))
        every = pair(choice(at("a", 1), at("a", 2), ("not", choice(at("a", 1), at("a", 2)))))
        self.assertEqual(parting(one, every), ((0, 1), ((0, 1),), 1))
        self.assertTrue(alike(every, pair(PASS)))
        b_only = pair(choice(at("b", 0), at("b", 1)))
        self.assertEqual(parting(b_only, pair(PASS)), ((0, 3), ((0, 3),), 1))
        c_only = trio(choice(*[at("c", number) for number in range(8)]))
        self.assertEqual(parting(c_only, trio(PASS)), ((0, 0, 10), ((0, 0, 10),), 1))
        self.assertEqual(parting(trio(PASS), c_only), ((0, 0, 10), ((0, 0, 10),), 0))

    def test_numbers_that_only_one_of_them_names(self):
        self.assertEqual(parting(solo(PASS), solo(("not", at("a", 7)))), ((7,), ((7,),), 0))
        self.assertEqual(parting(solo(("not", at("a", 7))), solo(PASS)), ((7,), ((7,),), 1))
        self.assertEqual(parting(solo(at("a", 3)), solo(at("a", 7))), ((3,), ((3,),), 0))
        self.assertEqual(parting(solo(at("a", 7)), solo(at("a", 3))), ((3,), ((3,),), 1))
        self.assertTrue(alike(solo(PASS), solo(choice(PASS, at("a", 10 ** 12)))))

    def test_copies_of_numbers_that_nobody_names(self):
        self.assertEqual(parting(trio(take("a", "b")), trio(take("a", "c"))), ((0, 1, 2), ((1, 1, 2),), 0))
        self.assertEqual(parting(trio(row(take("a", "c"), MARK)), trio(row(take("b", "c"), MARK))),
                         ((0, 1, 2), ((0, 2, 2), (0, 2, 2)), 1))

    def test_programs_without_ways(self):
        for tree in (DROP, row(MARK, DROP), ("not", PASS), row(put("a", 1), MARK, at("a", 2)), row(loop(MARK), DROP),
                     row(at("a", 1), at("a", 2)), choice(DROP, row(loop(row(MARK, put("b", 3))), DROP))):
            with self.subTest(tree):
                self.assertIs(has_ways(pair(tree)), False)
                self.assertTrue(alike(pair(tree), pair(DROP)))
                self.assertTrue(within(pair(tree), pair(MARK)))
                self.assertEqual(parting(pair(MARK), pair(tree))[1:], (parting(pair(MARK), pair(tree))[0:1] * 2, 0))

    def test_programs_with_ways_of_few_packets(self):
        for tree in (PASS, MARK, at("a", 5), ("not", at("b", 0)), row(at("a", 1), at("b", 1)), loop(DROP),
                     row(*[("not", at("a", number)) for number in range(8)]),
                     row(loop(row(MARK, put("a", 3))), at("a", 3))):
            with self.subTest(tree):
                self.assertIs(has_ways(pair(tree)), True)

    def test_a_program_of_many_marks(self):
        for program in (six_marks(), walk(), counter(8), odometer(3)):
            self.assertTrue(alike(program, program))
            if program.marks < 4:
                self.assertTrue(alike(program, program + program))
            self.assertTrue(alike(program.loop(), (program.loop()).loop()))
            self.assertTrue(within(program, program.loop()))


class LeastPartings(unittest.TestCase):
    def test_fewest_marks_before_the_least_packet(self):
        one = pair(choice(row(at("a", 0), MARK, MARK), row(at("a", 5), MARK, put("b", 4))))
        self.assertEqual(parting(one, pair(DROP)), ((5, 0), ((5, 0), (5, 4)), 0))
        self.assertEqual(beyond(one, pair(DROP)), ((5, 0), ((5, 0), (5, 4))))

    def test_the_least_packet_before_the_least_way(self):
        one = pair(choice(row(at("a", 2), put("a", 0)), row(at("a", 1), put("a", 9))))
        self.assertEqual(parting(one, pair(DROP)), ((1, 0), ((9, 0),), 0))

    def test_the_least_way_by_its_first_packets_then_by_its_end(self):
        one = solo(choice(row(put("a", 3), MARK, put("a", 1)), row(put("a", 2), MARK, put("a", 9)),
                          row(put("a", 2), MARK, put("a", 8))))
        self.assertEqual(parting(one, solo(DROP)), ((0,), ((2,), (8,)), 0))
        other = solo(choice(row(put("a", 2), MARK, put("a", 8)), row(put("a", 2), MARK, put("a", 7))))
        self.assertEqual(parting(one, other), ((0,), ((2,), (7,)), 1))
        self.assertEqual(beyond(one, other), ((0,), ((2,), (9,))))
        self.assertEqual(beyond(other, one), ((0,), ((2,), (7,))))

    def test_the_index_is_that_of_the_program_that_makes_the_way(self):
        self.assertEqual(parting(solo(PASS), solo(MARK)), ((0,), ((0,),), 0))
        self.assertEqual(parting(solo(MARK), solo(PASS)), ((0,), ((0,),), 1))
        self.assertEqual(parting(solo(row(MARK, put("a", 3))), solo(row(MARK, put("a", 4)))), ((0,), ((0,), (3,)), 0))
        self.assertEqual(parting(solo(row(MARK, put("a", 4))), solo(row(MARK, put("a", 3)))), ((0,), ((0,), (3,)), 1))

    def test_ways_that_part_only_behind_many_marks(self):
        for many in (3, 6, 8):
            one, other = counter(many), Program(["a"], row(counter(many).tree, put("a", 1)))
            told = tuple((number,) for number in range(2, many + 1))
            self.assertEqual(parting(one, other), ((0,), told + ((1,),), 1))
            self.assertEqual(beyond(one, other), ((0,), told + ((many,),)))
        one, other = loop(row(MARK, MARK)), loop(row(MARK, MARK, MARK))
        self.assertEqual(parting(solo(one), solo(other)), ((0,), ((0,),) * 3, 0))
        self.assertEqual(parting(solo(choice(one, other, MARK)), solo(loop(MARK))), ((0,), ((0,),) * 6, 1))
        self.assertIsNone(beyond(solo(choice(one, other, MARK)), solo(loop(MARK))))

    def test_a_way_of_hundreds_of_marks(self):
        one, other = odometer(8), trio(row(odometer(8).tree, take("a", "b"), put("c", 1)))
        packet, way, index = parting(one, other)
        self.assertEqual((packet, len(way), way[-1], index), ((0, 1, 1), 512, (8, 8, 1), 1))
        self.assertEqual(list(way[:-1]), list(itertools.product(range(1, 9), repeat=3))[1:])

    def test_against_all_ways_up_to_that_many_marks(self):
        chance = random.Random(31)
        counts = {}
        for _ in range(400):
            one, other = a_pair(chance)
            found = parting(one, other), beyond(one, other)
            for answer, work in zip(found, (self.parted, self.exceeding)):
                many = 2 if answer is None else len(answer[1]) - 1
                if many <= 3:
                    counts[many, answer is None] = counts.get((many, answer is None), 0) + 1
                    self.assertEqual(answer, work(one, other, many), (one.tree, other.tree))
        self.assertGreater(counts[1, False], 20)
        self.assertGreater(counts[2, True], 100)

    def ways_of_both(self, one, other, most):
        for packet in samples(one.fields, sorted(set(one.numbers + other.numbers))):
            yield packet, set(ways(one, packet, most)), set(ways(other, packet, most))

    def parted(self, one, other, most):
        found = [(len(way), packet, way, 0 if way in some else 1)
                 for packet, some, more in self.ways_of_both(one, other, most) for way in some ^ more]
        return min(found)[1:] if found else None

    def exceeding(self, one, other, most):
        found = [(len(way), packet, way) for packet, some, more in self.ways_of_both(one, other, most)
                 for way in some - more]
        return min(found)[1:] if found else None


class Agreeing(unittest.TestCase):
    def test_all_answers_agree(self):
        chance = random.Random(32)
        counts = {}
        for _ in range(150):
            one, other = a_pair(chance, 6)
            for word, told, parted in (("alike", alike, parting), ("within", within, beyond)):
                answer = told(one, other)
                counts[word, answer] = counts.get((word, answer), 0) + 1
                self.assertIs(parted(one, other) is None, answer)
                found = table(one, other, word)
                self.assertIs(found is not None, answer)
                # A table that keeps the rules proves that they are; the partings are judged above.
                if answer:
                    self.assertTrue(keeps_the_rules(one, other, word, found))
            self.assertIs(alike(one, other), alike(other, one))
            self.assertIs(alike(one, other), within(one, other) and within(other, one))
        self.assertGreater(min(counts.values()), 30)

    def test_has_ways_if_an_end_is_come_to_from_a_sample(self):
        chance = random.Random(33)
        for _ in range(100):
            one, _ = a_pair(chance, 6)
            walker = Walker(one)
            found = samples(one.fields, one.numbers)
            self.assertIs(has_ways(one), any(walker.is_live((0, packet)) for packet in found))

    def test_equal_answers_for_equal_arguments(self):
        one, other = pair(loop(choice(A, B))), pair(loop(A))
        for work in (parting, beyond):
            self.assertEqual(work(one, other), work(Program(("b", "a"), one.tree), Program(["a", "b"], other.tree)))


if __name__ == "__main__":
    unittest.main()
