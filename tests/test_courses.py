import random
import unittest

from markedways.errors import BadPacket, BadTest
from markedways.packets import samples
from markedways.programs import Program
from oracle import a_program, a_test, ends, satisfied
from test_programs import raised
from test_trees import DROP, IS, MARK, ONLY_TREES, PASS, nested
from values import odd_values

NO_PACKETS = [(), (1,), (1, 2, 3), (1, -1), (-1, 1), (1, True), (False, 1), (1, None), ("1", 2), [1, 2], (1, [2]),
              ((1, 2),), (1, (2,)), {1: 2}, "12", 12, None, True]


def pair(tree):
    return Program(["a", "b"], tree)


def at(field, number):
    return ("is", field, number)


def put(field, number):
    return ("set", field, number)


class Holding(unittest.TestCase):
    def test_each_kind_of_test(self):
        for tree, holding in (
                (PASS, [(0, 0), (1, 2), (9, 1), (1, 10 ** 12)]), (DROP, []), (at("a", 1), [(1, 2), (1, 10 ** 12)]),
                (at("b", 1), [(9, 1)]), (("row", at("a", 1), at("b", 2)), [(1, 2)]),
                (("choice", at("a", 1), at("b", 1)), [(1, 2), (9, 1), (1, 10 ** 12)]),
                (("not", at("a", 1)), [(0, 0), (9, 1)]), (("not", PASS), []),
                (("row", PASS, ("not", at("a", 0)), ("not", at("b", 2))), [(9, 1), (1, 10 ** 12)]),
                (("choice", DROP, ("row", at("a", 0), at("b", 0)), DROP), [(0, 0)]),
                (("not", ("choice", at("a", 9), ("not", at("a", 1)))), [(1, 2), (1, 10 ** 12)])):
            for packet in ((0, 0), (1, 2), (9, 1), (1, 10 ** 12)):
                with self.subTest(tree=tree, packet=packet):
                    self.assertIs(pair(tree).holds(packet), packet in holding)

    def test_as_the_words_say(self):
        chance = random.Random(21)
        for _ in range(150):
            fields = ["a", "b", "c"][:chance.choice((1, 2, 3))]
            program = Program(fields, a_test(chance, fields, [0, 1, 5], 5))
            for packet in samples(fields, [0, 1, 5, 77]):
                self.assertIs(program.holds(packet), satisfied(fields, program.tree, packet))
                self.assertEqual(program(packet), [packet] if program.holds(packet) else [])

    def test_no_tests_whatever_the_packet_is(self):
        for tree in ONLY_TREES:
            fields = ["a", "b"] + [name for name in ("set", "take") if name in tree[1:]]
            program = Program(fields, tree)
            for packet in (tuple(0 for _ in fields), None, (True,)):
                with self.subTest(tree=tree, packet=packet):
                    self.assertEqual(raised(BadTest, program.holds, packet).part, "program")

    def test_no_packets(self):
        for packet in odd_values() + NO_PACKETS:
            with self.subTest(packet):
                self.assertEqual(raised(BadPacket, pair(IS).holds, packet).packet, packet)

    def test_by_name(self):
        self.assertIs(pair(IS).holds(packet=(1, 0)), True)


class Ends(unittest.TestCase):
    def test_each_kind_of_tree(self):
        for tree, found in (
                (PASS, [(1, 7)]), (DROP, []), (MARK, [(1, 7)]), (IS, [(1, 7)]), (at("a", 2), []),
                (put("a", 3), [(3, 7)]), (put("b", 3), [(1, 3)]), (("take", "a", "b"), [(7, 7)]),
                (("take", "b", "a"), [(1, 1)]), (("not", IS), []), (("not", at("b", 1)), [(1, 7)]),
                (("row", put("a", 2), ("take", "b", "a")), [(2, 2)]),
                (("row", ("take", "b", "a"), put("a", 2)), [(2, 1)]),
                (("row", put("a", 2), at("a", 1), PASS), []), (("row", put("a", 2), at("a", 2)), [(2, 7)]),
                (("choice", put("a", 2), put("b", 0), PASS), [(1, 0), (1, 7), (2, 7)]),
                (("choice", PASS, MARK, put("a", 1)), [(1, 7)]), (("loop", DROP), [(1, 7)]),
                (("loop", MARK), [(1, 7)]), (("loop", put("a", 0)), [(0, 7), (1, 7)]),
                (("row", ("loop", put("a", 0)), put("b", 0)), [(0, 0), (1, 0)])):
            with self.subTest(tree):
                self.assertEqual(pair(tree)((1, 7)), found)

    def test_numbers_that_are_nowhere_named(self):
        big = 10 ** 12
        swap = ("row", ("take", "c", "a"), ("take", "a", "b"), ("take", "b", "c"))
        program = Program(["a", "b", "c"], ("loop", swap))
        self.assertEqual(program((big, 5, 0)), [(5, big, big), (big, 5, 0), (big, 5, 5)])
        self.assertEqual(pair(("choice", IS, put("b", 1)))((big, big)), [(big, 1)])
        self.assertEqual(pair(("not", IS))((big, 1)), [(big, 1)])

    def test_ends_are_ascending_and_each_once(self):
        moves = ("choice", put("a", 10), put("b", 9), put("a", 2), put("b", 10), put("b", 2), put("a", 9))
        wanted = sorted((a, b) for a in (2, 9, 10, 11) for b in (2, 9, 10, 11))
        self.assertEqual(pair(("loop", moves))((11, 11)), wanted)
        self.assertEqual(pair(("loop", ("loop", ("choice", moves, moves))))((11, 11)), wanted)

    def test_the_order_of_the_fields_has_no_meaning(self):
        for fields in (["to", "at"], ("at", "to")):
            program = Program(fields, ("row", at("at", 1), put("to", 5)))
            self.assertEqual(program((1, 2)), [(1, 5)])
            self.assertEqual(program((2, 1)), [])

    def test_loops_in_loops(self):
        step = ("choice", ("row", at("a", 0), put("a", 1)), ("row", at("a", 1), put("a", 2)))
        turn = ("row", at("a", 2), put("a", 0), ("choice", ("row", at("b", 0), put("b", 1)),
                                                 ("row", at("b", 1), put("b", 2))))
        walk = pair(("loop", ("row", ("loop", step), turn)))
        self.assertEqual(walk((0, 0)), [(0, 0), (0, 1), (0, 2)])
        self.assertEqual(walk((1, 1)), [(0, 2), (1, 1)])
        self.assertEqual(walk((5, 0)), [(5, 0)])
        walk = pair(("loop", ("choice", ("loop", step), turn)))
        self.assertEqual(walk((1, 1)), [(0, 2), (1, 1), (1, 2), (2, 1), (2, 2)])

    def test_what_came_before_a_loop_leaves_nothing_behind(self):
        # The same packet comes to the second part by both alternatives, at different times.
        late = ("row", ("loop", ("choice", ("row", at("a", 0), put("a", 1)), ("row", at("a", 1), put("a", 2)))),
                at("a", 2))
        tree = ("row", ("choice", put("a", 2), late), put("b", 4))
        self.assertEqual(pair(tree)((0, 0)), [(2, 4)])
        self.assertEqual(pair(("loop", tree))((0, 0)), [(0, 0), (2, 4)])

    def test_a_new_list_each_time(self):
        program = pair(("choice", PASS, put("a", 2)))
        program((1, 1)).clear()
        self.assertEqual(program((1, 1)), [(1, 1), (2, 1)])
        self.assertIsInstance(program((1, 1)), list)

    def test_no_packets(self):
        for packet in odd_values() + NO_PACKETS:
            for tree in (PASS, DROP, ("loop", put("a", 1))):
                with self.subTest(packet):
                    self.assertEqual(raised(BadPacket, pair(tree), packet).packet, packet)

    def test_a_packet_of_the_error_is_a_copy(self):
        packet = [1, [2]]
        error = raised(BadPacket, pair(PASS), packet)
        packet[1].append(3)
        self.assertEqual(error.packet, [1, [2]])

    def test_by_name(self):
        self.assertEqual(pair(put("a", 3))(packet=(1, 1)), [(3, 1)])


class EndsAsTheWordsSay(unittest.TestCase):
    def compare(self, seed, levels, rounds):
        chance = random.Random(seed)
        for _ in range(rounds):
            fields = ["a", "b", "c"][:chance.choice((1, 2, 3, 3))]
            numbers = chance.sample((0, 1, 2, 3, 5, 8, 40, 10 ** 12), chance.choice((1, 2, 4)))
            program = a_program(chance, fields, numbers, levels)
            for packet in chance.sample(samples(fields, numbers), 2):
                packet = tuple(chance.choice((number, number, 6, 7)) for number in packet)
                with self.subTest(tree=program.tree, packet=packet):
                    self.assertEqual(program(packet), sorted(ends(fields, program.tree, packet)))

    def test_small_trees(self):
        self.compare(22, 3, 500)

    def test_deeper_trees(self):
        self.compare(23, 5, 200)


def counting(fields, base):
    """A step from each packet of numbers below the base to the next one, that of the last field first."""
    rules = []
    for k, field in enumerate(reversed(fields)):
        carried = [at(other, base - 1) for other in fields[len(fields) - k:]]
        cleared = [put(other, 0) for other in fields[len(fields) - k:]]
        for n in range(base - 1):
            rules.append(("row", *carried, at(field, n), put(field, n + 1), *cleared))
    return ("choice", *rules)


class Limits(unittest.TestCase):
    def test_a_long_count_in_many_loops(self):
        fields = ["a", "b", "c"]
        every = [(a, b, c) for a in range(8) for b in range(8) for c in range(8)]
        program = Program(fields, nested(["loop"], 10, counting(fields, 8)))
        self.assertEqual(program((0, 0, 0)), every)
        self.assertEqual(program((7, 7, 5)), every[-3:])
        self.assertEqual(program((8, 0, 6)), [(8, 0, 6), (8, 0, 7), (8, 1, 0)] + [
            (8, b, c) for b in range(8) for c in range(8) if (b, c) > (1, 0)])

    def test_loops_with_more_in_between(self):
        tree = counting(["a", "b", "c"], 3)
        for _ in range(4):
            tree = ("loop", ("choice", tree, ("row", at("a", 2), at("b", 2), at("c", 2), put("c", 9))))
        program = Program(["a", "b", "c"], tree)
        every = [(a, b, c) for a in range(3) for b in range(3) for c in range(3)]
        self.assertEqual(program((0, 0, 0)), every + [(2, 2, 9)])

    def test_a_row_of_a_thousand_choices(self):
        numbers = (0, 3, 5, 6, 7, 9, 11, 10 ** 12)
        choices = tuple(("choice", PASS, put("abc"[k % 3], numbers[k % 8])) for k in range(1333))
        program = Program(["a", "b", "c"], ("row",) + choices)
        found = program((1, 2, 4))
        sides = [sorted(numbers + (own,)) for own in (1, 2, 4)]
        self.assertEqual(found, [(a, b, c) for a in sides[0] for b in sides[1] for c in sides[2]])

    def test_all_packets_of_eleven_numbers(self):
        moves = tuple(put(field, n) for field in "abc" for n in range(8))
        takes = tuple(("take", one, other) for one in "abc" for other in "abc" if one != other)
        program = Program(["a", "b", "c"], ("loop", ("choice",) + moves + takes))
        sides = [*range(8), 50, 60, 70]
        every = [(a, b, c) for a in sides for b in sides for c in sides]
        # A take loses a number, so that the three that are not named can't change their places.
        wanted = [one for one in every if set(one) != {50, 60, 70} or one == (60, 70, 50)]
        self.assertEqual(program((60, 70, 50)), wanted)

    def test_four_thousand_trees_and_a_great_not(self):
        tests = tuple(("row", at("a", k % 8), at("b", k % 7)) for k in range(1300))
        tree = ("loop", ("row", ("not", ("choice",) + tests), ("choice", put("a", 3), put("b", 6), PASS)))
        program = Program(["a", "b"], tree)
        self.assertEqual(program((9, 9)), [(3, 6), (3, 9), (9, 6), (9, 9)])
        self.assertEqual(program((1, 8)), [(1, 6), (1, 8), (3, 6), (3, 8)])
        self.assertEqual(program((1, 1)), [(1, 1)])


if __name__ == "__main__":
    unittest.main()
