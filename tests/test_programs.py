import unittest

from markedways.errors import BadFields, BadTree, TooMany
from markedways.programs import Program
from test_packets import NO_FIELDS
from test_trees import MARK, NEARLY, ONLY_TREES, PASS, nested
from values import odd_values


def raised(kind, work, *things, **named):
    """The error of this very class that the work raises."""
    try:
        work(*things, **named)
    except kind as error:
        if error.__class__ is kind:
            return error
        raise
    raise AssertionError(f"no {kind.__name__}")


class Parts(unittest.TestCase):
    def test_fields_are_an_ascending_tuple(self):
        self.assertEqual(Program(["b", "c", "a"], PASS).fields, ("a", "b", "c"))
        self.assertEqual(Program(("z", "b"), PASS).fields, ("b", "z"))
        self.assertEqual(Program(["a"], PASS).fields, ("a",))

    def test_the_tree_is_as_it_was_passed(self):
        tree = ("row", ("choice", ("row", PASS, MARK), PASS), ("loop", ("loop", MARK)), ("not", ("not", PASS)))
        self.assertEqual(Program(["a"], tree).tree, tree)
        self.assertIsInstance(Program(["a"], tree).tree, tuple)

    def test_numbers_are_those_of_is_and_set_each_once_ascending(self):
        tree = ("row", ("set", "a", 7), ("not", ("choice", ("is", "b", 10 ** 12), ("is", "a", 0))),
                ("loop", ("choice", ("set", "b", 3), ("is", "b", 7))), ("take", "a", "b"))
        self.assertEqual(Program(["a", "b"], tree).numbers, (0, 3, 7, 10 ** 12))
        self.assertEqual(Program(["a", "b"], ("take", "a", "b")).numbers, ())
        self.assertEqual(Program(["a"], ("is", "a", 5)).numbers, (5,))
        self.assertEqual(Program(["a"], ("set", "a", 6)).numbers, (6,))

    def test_marks_are_counted_wherever_they_stand(self):
        self.assertEqual(Program(["a"], PASS).marks, 0)
        self.assertEqual(Program(["a"], MARK).marks, 1)
        tree = ("row", MARK, ("choice", MARK, ("loop", ("row", MARK, ("row", PASS, MARK)))), MARK)
        self.assertEqual(Program(["a"], tree).marks, 5)

    def test_trees_may_have_fewer_fields(self):
        self.assertEqual(Program(["a", "b", "c"], ("is", "b", 1)).fields, ("a", "b", "c"))

    def test_by_name(self):
        program = Program(tree=("is", "a", 2), fields=["a"])
        self.assertEqual((program.fields, program.tree), (("a",), ("is", "a", 2)))

    def test_a_list_that_is_changed_later_has_no_effect(self):
        fields = ["b", "a"]
        program = Program(fields, ("is", "b", 1))
        self.assertEqual(fields, ["b", "a"])
        fields[0] = "c"
        fields.append("d")
        self.assertEqual(program.fields, ("a", "b"))
        self.assertEqual(program((0, 1)), [(0, 1)])

    def test_a_program_does_not_change(self):
        program = Program(["a"], ("is", "a", 1))
        for name, value in (("fields", ("b",)), ("tree", PASS), ("numbers", ()), ("marks", 3)):
            with self.subTest(name):
                with self.assertRaises(AttributeError):
                    setattr(program, name, value)
        self.assertEqual((program.fields, program.tree, program.numbers, program.marks),
                         (("a",), ("is", "a", 1), (1,), 0))

    def test_no_iterating(self):
        program = Program(["a"], ("row", PASS, PASS))
        for work in (iter, list, tuple, sorted, set, len):
            with self.subTest(work.__name__):
                with self.assertRaises(TypeError):
                    work(program)
        with self.assertRaises(TypeError):
            PASS in program
        with self.assertRaises(TypeError):
            for _ in program:
                pass


class Equality(unittest.TestCase):
    def test_equal_fields_and_trees(self):
        self.assertTrue(Program(["a", "b"], ("is", "a", 1)) == Program(("b", "a"), ("is", "a", 1)))
        self.assertFalse(Program(["a", "b"], ("is", "a", 1)) != Program(("b", "a"), ("is", "a", 1)))

    def test_other_fields_or_another_tree(self):
        one = Program(["a", "b"], ("is", "a", 1))
        for other in (Program(["a"], ("is", "a", 1)), Program(["a", "c"], ("is", "a", 1)),
                      Program(["a", "b"], ("is", "a", 2)), Program(["a", "b"], ("set", "a", 1)),
                      Program(["a", "b"], ("row", ("is", "a", 1), PASS))):
            with self.subTest(other.tree):
                self.assertTrue(one != other)
                self.assertFalse(one == other)

    def test_programs_that_do_the_same_may_differ(self):
        self.assertFalse(Program(["a"], PASS) == Program(["a"], ("row", PASS, PASS)))
        self.assertFalse(Program(["a"], ("choice", PASS, MARK)) == Program(["a"], ("choice", MARK, PASS)))

    def test_values_of_another_kind(self):
        program = Program(["a"], PASS)
        for thing in odd_values() + [PASS, ("a",), (("a",), PASS), [["a"], PASS], {"fields": ["a"], "tree": PASS}]:
            if isinstance(thing, Program):
                continue
            with self.subTest(thing):
                self.assertFalse(program == thing)
                self.assertFalse(thing == program)
                self.assertTrue(program != thing)
                self.assertTrue(thing != program)


class WrongFieldsAndTrees(unittest.TestCase):
    def test_bad_fields_come_first(self):
        for fields in odd_values() + NO_FIELDS:
            for tree in (PASS, ("pass", 1), None, ("row",) + (MARK,) * 5000):
                with self.subTest(fields=fields):
                    raised(BadFields, Program, fields, tree)

    def test_no_trees(self):
        for tree in odd_values() + NEARLY:
            with self.subTest(tree):
                raised(BadTree, Program, ["a", "b"], tree)

    def test_trees_of_other_fields(self):
        for tree in (("is", "b", 1), ("set", "b", 1), ("take", "a", "b"), ("take", "b", "a"), ("not", ("is", "b", 1)),
                     ("row", PASS, ("loop", ("choice", ("is", "a", 1), ("set", "c", 1))))):
            with self.subTest(tree):
                raised(BadTree, Program, ["a"], tree)
        raised(BadTree, Program, ["aa"], ("is", "a", 1))

    def test_levels(self):
        for words in (["loop"], ["row"], ["not"], ["choice", "loop"]):
            self.assertEqual(Program(["a"], nested(words, 12)).tree, nested(words, 12))
            raised(BadTree, Program, ["a"], nested(words, 13))

    def test_all_trees_but_with_too_few_fields_are_programs(self):
        for tree in ONLY_TREES:
            fields = ["a", "b"] + [name for name in ("set", "take") if name in tree[1:]]
            with self.subTest(tree):
                self.assertEqual(Program(fields, tree).tree, tree)


def limit(tree):
    error = raised(TooMany, Program, ["a", "b"], tree)
    return (error.what, error.most)


def naming(many):
    return tuple(("is" if n % 2 else "set", "ab"[n % 3 == 0], n) for n in range(many))


class Limits(unittest.TestCase):
    def test_trees(self):
        wide = ("choice",) + (PASS,) * 3999
        self.assertEqual(Program(["a"], wide).tree, wide)
        self.assertEqual(limit(wide + (PASS,)), ("trees", 4000))
        self.assertEqual(limit(("loop", wide)), ("trees", 4000))
        deep = ("row",) + (("loop", ("row", PASS, PASS)),) * 999 + (PASS, PASS, PASS)
        self.assertEqual(Program(["a"], deep).marks, 0)
        self.assertEqual(limit(deep + (PASS,)), ("trees", 4000))
        nots = ("row",) + (("not", ("not", PASS)),) * 1333
        self.assertEqual(Program(["a"], nots).tree, nots)
        self.assertEqual(limit(("not", nots)), ("trees", 4000))

    def test_marks(self):
        self.assertEqual(Program(["a"], ("row",) + (MARK,) * 6).marks, 6)
        self.assertEqual(limit(("row",) + (MARK,) * 7), ("marks", 6))
        self.assertEqual(limit(("choice",) + (("loop", MARK),) * 7), ("marks", 6))

    def test_numbers(self):
        self.assertEqual(Program(["a", "b"], ("row",) + naming(8)).numbers, tuple(range(8)))
        self.assertEqual(limit(("row",) + naming(9)), ("numbers", 8))
        again = ("row",) + naming(8) + naming(8) + (("not", ("is", "b", 7)),)
        self.assertEqual(Program(["a", "b"], again).numbers, tuple(range(8)))
        self.assertEqual(limit(again + (("not", ("is", "b", 8)),)), ("numbers", 8))

    def test_several_at_once(self):
        many_trees, many_marks, many_numbers = (PASS,) * 4000, (MARK,) * 7, naming(9)
        self.assertEqual(limit(("row",) + many_trees + many_marks + many_numbers), ("trees", 4000))
        self.assertEqual(limit(("row",) + many_numbers + many_trees), ("trees", 4000))
        self.assertEqual(limit(("row",) + many_marks + many_trees), ("trees", 4000))
        self.assertEqual(limit(("row",) + many_numbers + many_marks), ("marks", 6))
        raised(BadTree, Program, ["a", "b"], ("row",) + many_trees + many_marks + many_numbers + (("is", "c", 1),))
        raised(BadTree, Program, ["a", "b"], ("row",) + many_trees + (nested(["row"], 12),))
        raised(BadFields, Program, [], ("row",) + many_trees)

    def test_all_exactly_at_the_limit(self):
        leaves = (MARK,) * 6 + naming(8)
        tree = nested(["loop"], 11, ("row",) + leaves + (PASS,) * (4000 - 11 - len(leaves)))
        program = Program(["a", "b"], tree)
        self.assertEqual((program.marks, program.numbers, program.tree), (6, tuple(range(8)), tree))
        self.assertEqual(limit(nested(["loop"], 11, ("row",) + leaves + (PASS,) * 3976)), ("trees", 4000))


if __name__ == "__main__":
    unittest.main()
