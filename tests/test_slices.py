import random
import unittest

from markedways.errors import BadProgram, BadTest, BadTree, OtherFields, TooMany, WayError
from markedways.likeness import beyond
from markedways.packets import samples
from markedways.programs import Program
from markedways.slices import are_apart, leak, sliced
from markedways.ways import ways
from samplers import (DROP, MARK, PASS, a_pair, at, choice, counter, loop, pair, put, row, six_marks, solo, take, trio,
                      walk)
from test_programs import raised
from test_trees import ONLY_TREES, nested
from values import no_programs

FLIP, FLOP = row(at("a", 1), MARK, put("a", 2)), row(at("a", 2), MARK, put("a", 1))


def together(one, other):
    """The loop of the choice of both, and the choice of both loops, put together by hand."""
    return (Program(one.fields, loop(choice(one.tree, other.tree))),
            Program(one.fields, choice(loop(one.tree), loop(other.tree))))


class Leaks(unittest.TestCase):
    def leaking(self, one, other):
        return leak(pair(one), pair(other))

    def test_the_example_of_the_document(self):
        door = Program(["at", "tag"], ("row", ("is", "at", 1), ("mark",), ("set", "at", 2)))
        hall = Program(["tag", "at"], ("row", ("is", "at", 2), ("mark",), ("take", "tag", "at"), ("set", "at", 1)))
        self.assertEqual(leak(door, hall), ((1, 1), ((1, 1), (2, 1), (1, 2))))
        self.assertEqual(leak(hall, door), ((1, 1), ((1, 1), (2, 1), (1, 2))))
        self.assertIs(are_apart(door, hall), False)

    def test_programs_that_are_alike_do_not_leak(self):
        for tree in (FLIP, MARK, loop(MARK), choice(FLIP, FLOP), put("a", 3), row(MARK, take("a", "b"))):
            self.assertIsNone(self.leaking(tree, tree))
            self.assertIsNone(self.leaking(tree, choice(tree, tree)))

    def test_programs_that_make_no_ways(self):
        for tree in (DROP, row(MARK, DROP), row(at("a", 1), at("a", 2))):
            self.assertIsNone(self.leaking(tree, FLIP))
            self.assertIsNone(self.leaking(FLIP, tree))
            self.assertIsNone(self.leaking(tree, tree))
            self.assertIs(are_apart(pair(tree), pair(FLIP)), True)
            self.assertIs(are_apart(pair(FLIP), pair(tree)), True)
            self.assertIs(are_apart(pair(tree), pair(tree)), True)

    def test_slices_that_hand_packets_over(self):
        self.assertEqual(self.leaking(FLIP, FLOP), ((1, 1), ((1, 1), (2, 1), (1, 1))))
        self.assertEqual(self.leaking(FLOP, FLIP), ((1, 1), ((1, 1), (2, 1), (1, 1))))
        away = row(at("a", 2), MARK, put("a", 3))
        self.assertEqual(self.leaking(FLIP, away), ((1, 1), ((1, 1), (2, 1), (3, 1))))
        self.assertEqual(self.leaking(away, FLIP), ((1, 1), ((1, 1), (2, 1), (3, 1))))

    def test_slices_without_common_numbers(self):
        one, other = row(at("a", 1), MARK, put("a", 2)), row(at("a", 5), MARK, put("a", 6))
        self.assertIsNone(self.leaking(one, other))
        self.assertIs(are_apart(pair(one), pair(other)), True)
        behind = row(at("a", 6), MARK, put("a", 1))
        self.assertIsNone(self.leaking(one, choice(other, row(at("a", 7), MARK))))
        self.assertEqual(self.leaking(one, choice(other, behind)), ((6, 1), ((6, 1), (1, 1), (2, 1))))

    def test_a_slice_by_a_number_of_another_field(self):
        for k, other, wanted in ((2, put("b", 2), None), (2, put("b", 1), ((1, 2), ((1, 2), (1, 1), (2, 1))))):
            one = row(at("b", 1), FLIP)
            two = row(at("b", k), loop(choice(row(at("a", 1), MARK, other), row(at("a", 3), MARK))))
            self.assertEqual(self.leaking(one, two), wanted)

    def test_no_leak_though_they_are_not_apart(self):
        for one, other in ((PASS, PASS), (PASS, FLIP), (put("a", 1), put("a", 1)), (MARK, MARK), (MARK, PASS),
                           (row(at("a", 1), MARK), row(at("a", 2), MARK, at("a", 2), PASS, at("a", 2), DROP)),
                           (row(at("a", 1), put("a", 2)), put("a", 2))):
            self.assertIsNone(self.leaking(one, other))
        self.assertIs(are_apart(pair(PASS), pair(FLIP)), False)
        self.assertIs(are_apart(pair(MARK), pair(MARK)), False)

    def test_apart_needs_both_rows(self):
        one, other = row(at("a", 1), MARK, put("a", 2)), row(at("a", 2), MARK, put("a", 3))
        self.assertIs(are_apart(pair(one), pair(other)), False)
        self.assertIs(are_apart(pair(other), pair(one)), False)
        self.assertIs(are_apart(pair(one), pair(at("a", 3))), True)
        self.assertIs(are_apart(pair(put("a", 1)), pair(row(at("a", 2), put("a", 3)))), False)
        self.assertIs(are_apart(pair(row(at("a", 3), put("a", 1))), pair(row(at("a", 2), put("a", 2)))), True)

    def test_against_all_ways(self):
        chance = random.Random(701)
        counts = {}
        for _ in range(600):
            one, other = a_pair(chance, 2)
            try:
                found = leak(one, other)
            except WayError:
                continue
            self.assertEqual(found, beyond(*together(one, other)))
            many = 2 if found is None else len(found[1]) - 1
            counts[many, found is None] = counts.get((many, found is None), 0) + 1
            if many <= 2:
                self.assertEqual(found, self.first_of_all(one, other, many))
            if found is None:
                counts["apart", are_apart(one, other)] = counts.get(("apart", are_apart(one, other)), 0) + 1
            self.assertFalse(found is not None and are_apart(one, other))
        self.assertGreater(counts[1, False], 10)
        self.assertGreater(counts[2, True], 50)
        self.assertGreater(counts["apart", True], 10)
        self.assertGreater(counts["apart", False], 10)

    def first_of_all(self, one, other, most):
        common, alone = together(one, other)
        found = [(len(way), packet, way) for packet in samples(one.fields, sorted(set(one.numbers + other.numbers)))
                 for way in set(ways(common, packet, most)) - set(ways(alone, packet, most))]
        return min(found)[1:] if found else None

    def test_apart_as_the_words_say(self):
        chance = random.Random(702)
        for _ in range(200):
            one, other = a_pair(chance)
            numbers = sorted(set(one.numbers + other.numbers))
            wanted = not any(next_one(end) for packet in samples(one.fields, numbers)
                             for first, next_one in ((one, other), (other, one)) for end in first(packet))
            self.assertIs(are_apart(one, other), wanted)


class Sliced(unittest.TestCase):
    def test_it_is_the_row_of_the_three(self):
        into, out = pair(at("a", 1)), pair(("not", at("b", 2)))
        for program in (pair(FLIP), pair(MARK), six_marks(), pair(DROP), pair(choice(PASS, MARK))):
            self.assertEqual(sliced(program, into, out), into >> program >> out)
        self.assertEqual(sliced(pair(MARK), into, out).tree, row(at("a", 1), MARK, ("not", at("b", 2))))
        self.assertEqual(sliced(pair(FLIP), into, out).tree, row(at("a", 1), *FLIP[1:], ("not", at("b", 2))))
        several = pair(row(at("a", 1), at("b", 2)))
        self.assertEqual(sliced(pair(MARK), several, several).tree,
                         row(at("a", 1), at("b", 2), MARK, at("a", 1), at("b", 2)))

    def test_what_it_makes(self):
        program = sliced(pair(choice(put("a", 2), MARK)), pair(at("a", 1)), pair(at("b", 5)))
        self.assertEqual(program((1, 5)), [(1, 5), (2, 5)])
        self.assertEqual(program((1, 6)), [])
        self.assertEqual(program((2, 5)), [])

    def test_the_order_of_the_fields_has_no_meaning(self):
        program = sliced(Program(["b", "a"], MARK), Program(("a", "b"), PASS), Program(["b", "a"], PASS))
        self.assertEqual(program, Program(["a", "b"], row(PASS, MARK, PASS)))


class WrongArguments(unittest.TestCase):
    def test_no_programs(self):
        for thing in no_programs():
            for work in (leak, are_apart):
                self.assertEqual(raised(BadProgram, work, thing, None).part, "one")
                self.assertEqual(raised(BadProgram, work, walk(), thing).part, "other")
            self.assertEqual(raised(BadProgram, sliced, thing, None, None).part, "program")
            self.assertEqual(raised(BadTest, sliced, pair(MARK), thing, None).part, "into")
            self.assertEqual(raised(BadTest, sliced, pair(MARK), pair(PASS), thing).part, "out")

    def test_no_tests(self):
        for tree in ONLY_TREES:
            program = Program(["a", "b"] + [name for name in ("set", "take") if name in tree[1:]], tree)
            self.assertEqual(raised(BadTest, sliced, pair(MARK), program, None).part, "into")
            self.assertEqual(raised(BadTest, sliced, pair(MARK), pair(PASS), program).part, "out")

    def test_other_fields(self):
        for work in (leak, are_apart):
            raised(OtherFields, work, pair(MARK), solo(MARK))
            raised(OtherFields, work, pair(MARK), trio(nested(["loop"], 12, MARK)))
        raised(OtherFields, sliced, pair(MARK), solo(PASS), None)
        raised(OtherFields, sliced, pair(MARK), pair(PASS), trio(PASS))
        self.assertEqual(raised(BadTest, sliced, pair(MARK), pair(PASS), solo(MARK)).part, "out")

    def test_trees_of_more_than_twelve_levels(self):
        for levels, kind in ((10, None), (11, BadTree), (12, BadTree)):
            deep = pair(nested(["loop"], levels, MARK))
            for one, other in ((deep, pair(FLIP)), (pair(FLIP), deep), (deep, deep)):
                if kind is None:
                    self.assertIsInstance(leak(one, other), (tuple, type(None)))
                else:
                    raised(kind, leak, one, other)
        for levels, kind in ((11, None), (12, BadTree)):
            deep = pair(nested(["loop"], levels, MARK))
            for one, other in ((deep, pair(FLIP)), (pair(FLIP), deep), (deep, deep)):
                if kind is None:
                    self.assertIs(are_apart(one, other), False)
                    self.assertIsInstance(sliced(one, pair(PASS), pair(PASS)), Program)
                else:
                    raised(kind, are_apart, one, other)
            if kind is None:
                self.assertIsInstance(sliced(deep, pair(PASS), pair(PASS)), Program)
            else:
                raised(kind, sliced, deep, pair(PASS), pair(PASS))
                raised(kind, sliced, pair(MARK), pair(nested(["not"], levels, PASS)), pair(PASS))
                raised(kind, sliced, pair(MARK), pair(PASS), pair(nested(["not"], levels, PASS)))

    def test_rows_and_choices_are_spliced_before_their_levels_count(self):
        inner = nested(["loop"], 11, MARK)
        self.assertIsInstance(sliced(pair(row(PASS, inner)), pair(PASS), pair(PASS)), Program)
        self.assertIs(are_apart(pair(row(PASS, inner)), pair(row(inner, PASS))), False)
        raised(BadTree, are_apart, pair(choice(PASS, inner)), pair(PASS))
        inner = nested(["loop"], 10, MARK)
        # The loop of the choice has twelve levels, the choice of the loops has thirteen.
        raised(BadTree, leak, pair(choice(PASS, inner)), pair(PASS))
        self.assertIsNone(leak(pair(choice(PASS, nested(["loop"], 9, MARK))), pair(PASS)))

    def test_too_many_marks_and_numbers_and_trees(self):
        five, two = pair(row(*[MARK] * 5)), pair(row(MARK, MARK))
        low = pair(choice(*[at("a", number) for number in range(5)]))
        high = pair(choice(*[put("b", number) for number in range(5, 9)]))
        great = pair(row(*[PASS] * 2500))
        for one, other, what, most in ((five, two, "marks", 6), (low, high, "numbers", 8),
                                       (great, great, "trees", 4000)):
            for work in (leak, are_apart):
                for things in ((one, other), (other, one)):
                    error = raised(TooMany, work, *things)
                    self.assertEqual((error.what, error.most), (what, most))
        error = raised(TooMany, sliced, high, low, pair(PASS))
        self.assertEqual((error.what, error.most), ("numbers", 8))
        error = raised(TooMany, sliced, high, pair(PASS), low)
        self.assertEqual((error.what, error.most), ("numbers", 8))
        error = raised(TooMany, sliced, great, great, pair(PASS))
        self.assertEqual((error.what, error.most), ("trees", 4000))
        raised(OtherFields, sliced, high, low, solo(PASS))
        self.assertEqual(raised(BadTest, sliced, high, low, high).part, "out")
        self.assertIsNotNone(leak(counter(3), solo(row(MARK, MARK))))


if __name__ == "__main__":
    unittest.main()
