import unittest

from markedways.errors import BadFields, BadNumbers
from markedways.packets import is_field, is_packet, samples, spares
from markedways.programs import Program
from values import odd_values

NO_FIELDS = [
    [], (), ["a", "b", "c", "d"], ("a", "b", "c", "d"), ["a", "a"], ("a", "b", "a"), ["a", "A"], ["a", ""],
    ["a", "abcdefg"], ["pass"], ["a", "drop"], ["mark", "a"], ("a", "not"), ["a", None], ["a", 1], ["a", ["b"]],
    ["a", ("b",)], ["a", {}], [True], [["a"]], "a", "ab", {"a": 1}, {"a": "b"}, None, 1, True, ["a b"],
    ["a", Program(["a"], ("pass",))],
]

NO_NUMBERS = [
    [-1], [0, -1], [1, 1], (1, 2, 1), [True], [False], [0, True], ["1"], [None], [[1]], [(1,)], [{}],
    list(range(9)), tuple(range(9)), [1] * 9, None, 1, "", "12", {}, {1: 2}, True, [Program(["a"], ("pass",))],
]


class Fields(unittest.TestCase):
    def test_names_of_one_to_six_letters(self):
        for name in ("a", "z", "ab", "abc", "abcd", "abcde", "abcdef", "zzzzzz", "passes", "pas", "notes", "marks",
                     "dropp", "is", "set", "take", "row", "choice", "loop", "none", "true", "xpass", "no", "ot"):
            with self.subTest(name):
                self.assertIs(is_field(name), True)

    def test_each_letter(self):
        for letter in "abcdefghijklmnopqrstuvwxyz":
            self.assertIs(is_field(letter), True)
            self.assertIs(is_field("a" + letter), True)

    def test_strings_that_are_none(self):
        for name in ("", "abcdefg", "a" * 4000, "A", "aB", "a1", "1", "_", "a_b", "a b", " a", "a ", "a\n", "\na",
                     "\n", "a.b", "-", "~", "`", "{", "@", "[", "pass", "drop", "mark", "not"):
            with self.subTest(name):
                self.assertIs(is_field(name), False)

    def test_any_other_value(self):
        for thing in odd_values():
            with self.subTest(thing):
                self.assertIs(is_field(thing), isinstance(thing, str) and thing == "a")
        for thing in (["a"], ("a",), {"a": "a"}, b"a"):
            self.assertIs(is_field(thing), False)

    def test_by_name(self):
        self.assertIs(is_field(thing="a"), True)


class Packets(unittest.TestCase):
    def test_packets_of_one_to_three_fields(self):
        for fields in (["a"], ["b", "a"], ("c", "a", "b")):
            for many in range(5):
                for number in (0, 1, 9, 10 ** 12, 10 ** 99):
                    with self.subTest(fields=fields, many=many, number=number):
                        self.assertIs(is_packet(fields, (number,) * many), many == len(fields))

    def test_wrong_items(self):
        for item in (-1, -10 ** 99, True, False, None, "1", "", [1], (1,), {}, Program(["a"], ("pass",))):
            with self.subTest(item):
                self.assertIs(is_packet(["a"], (item,)), False)
                self.assertIs(is_packet(["a", "b"], (item, 1)), False)
                self.assertIs(is_packet(["a", "b"], (1, item)), False)
                self.assertIs(is_packet(["a", "b", "c"], (1, 2, item)), False)

    def test_no_list_where_a_tuple_is_expected(self):
        self.assertIs(is_packet(["a"], [1]), False)
        self.assertIs(is_packet(["a", "b"], [1, 2]), False)
        self.assertIs(is_packet(["a"], {1: 1}), False)

    def test_any_other_value(self):
        for thing in odd_values():
            for fields in (["a"], ["a", "b"], ["a", "b", "c"]):
                with self.subTest(thing=thing, fields=fields):
                    self.assertIs(is_packet(fields, thing), False)

    def test_bad_fields_whatever_the_value_is(self):
        for fields in odd_values() + NO_FIELDS:
            for thing in ((1,), (1, 2), None):
                with self.subTest(fields=fields, thing=thing):
                    with self.assertRaises(BadFields):
                        is_packet(fields, thing)

    def test_by_name(self):
        self.assertIs(is_packet(thing=(1,), fields=["a"]), True)


class Spares(unittest.TestCase):
    def test_the_least_numbers_that_are_not_named(self):
        self.assertEqual(spares(["a"], []), {"a": 0})
        self.assertEqual(spares(["a", "b", "c"], []), {"a": 0, "b": 1, "c": 2})
        self.assertEqual(spares(["a", "b", "c"], [0, 2, 4]), {"a": 1, "b": 3, "c": 5})
        self.assertEqual(spares(["a", "b", "c"], [1, 2]), {"a": 0, "b": 3, "c": 4})
        self.assertEqual(spares(["a", "b"], [5, 10 ** 12]), {"a": 0, "b": 1})
        self.assertEqual(spares(["a", "b", "c"], [7, 6, 5, 4, 3, 2, 1, 0]), {"a": 8, "b": 9, "c": 10})
        self.assertEqual(spares(["a", "b", "c"], [0, 1, 3, 4, 6, 7, 9, 10]), {"a": 2, "b": 5, "c": 8})

    def test_any_order_and_tuples(self):
        found = spares(("z", "b", "m"), (3, 0, 1))
        self.assertEqual(list(found.items()), [("b", 2), ("m", 4), ("z", 5)])

    def test_what_is_passed_stays_and_what_is_returned_is_new(self):
        fields, numbers = ["b", "a"], [4, 0]
        found = spares(fields, numbers)
        self.assertEqual((fields, numbers), (["b", "a"], [4, 0]))
        found["a"] = 9
        self.assertEqual(spares(fields, numbers), {"a": 1, "b": 2})

    def test_by_name(self):
        self.assertEqual(spares(numbers=[0], fields=["a"]), {"a": 1})


class Samples(unittest.TestCase):
    def test_one_field(self):
        self.assertEqual(samples(["a"], []), [(0,)])
        self.assertEqual(samples(["a"], [0, 1]), [(0,), (1,), (2,)])
        self.assertEqual(samples(["a"], [3, 1]), [(0,), (1,), (3,)])

    def test_each_field_has_its_own_spare(self):
        self.assertEqual(samples(["a", "b", "c"], []), [(0, 1, 2)])
        self.assertEqual(samples(["b", "a"], [1]), [(0, 1), (0, 2), (1, 1), (1, 2)])
        self.assertEqual(samples(("a", "b"), (2,)), [(0, 1), (0, 2), (2, 1), (2, 2)])

    def test_all_of_eight_numbers_and_three_fields(self):
        numbers = [20, 0, 5, 10 ** 12, 1, 7, 8, 2]
        found = samples(["c", "a", "b"], numbers)
        own = [[3] + numbers, [4] + numbers, [6] + numbers]
        wanted = sorted((x, y, z) for x in own[0] for y in own[1] for z in own[2])
        self.assertEqual(found, wanted)
        self.assertEqual(len(found), 729)

    def test_what_is_passed_stays_and_what_is_returned_is_new(self):
        fields, numbers = ["b", "a"], [4, 0]
        found = samples(fields, numbers)
        self.assertIsInstance(found, list)
        self.assertEqual((fields, numbers), (["b", "a"], [4, 0]))
        found.clear()
        self.assertEqual(len(samples(fields, numbers)), 9)

    def test_by_name(self):
        self.assertEqual(samples(numbers=[0], fields=["a"]), [(0,), (1,)])


class WrongParameters(unittest.TestCase):
    def test_bad_fields_come_first(self):
        for fields in odd_values() + NO_FIELDS:
            for numbers in ([], [1, 1], None):
                for asked in (spares, samples):
                    with self.subTest(fields=fields, numbers=numbers, asked=asked.__name__):
                        with self.assertRaises(BadFields):
                            asked(fields, numbers)

    def test_bad_numbers(self):
        for numbers in odd_values() + NO_NUMBERS:
            for asked in (spares, samples):
                with self.subTest(numbers=numbers, asked=asked.__name__):
                    with self.assertRaises(BadNumbers):
                        asked(["a", "b"], numbers)

    def test_eight_numbers_are_no_more_than_allowed(self):
        self.assertEqual(len(samples(["a"], list(range(8)))), 9)


if __name__ == "__main__":
    unittest.main()
