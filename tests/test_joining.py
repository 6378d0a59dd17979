import unittest

from markedways.errors import BadTest, BadTree, OtherFields, TooMany
from markedways.programs import Program
from test_programs import naming, raised
from test_trees import DROP, IS, MARK, ONLY_TREES, PASS, TESTS, nested

ROW, CHOICE = ("row", IS, MARK), ("choice", DROP, MARK, PASS)


def program(tree):
    return Program(["a", "b"], tree)


def add(one, other):
    return one + other


def follow(one, other):
    return one >> other


class Joining(unittest.TestCase):
    def test_two_plain_trees(self):
        self.assertEqual((program(IS) + program(MARK)).tree, ("choice", IS, MARK))
        self.assertEqual((program(IS) >> program(MARK)).tree, ("row", IS, MARK))

    def test_inner_trees_replace_a_choice_on_either_side(self):
        self.assertEqual((program(CHOICE) + program(IS)).tree, CHOICE + (IS,))
        self.assertEqual((program(IS) + program(CHOICE)).tree, ("choice", IS) + CHOICE[1:])
        self.assertEqual((program(CHOICE) + program(CHOICE)).tree, CHOICE + CHOICE[1:])

    def test_inner_trees_replace_a_row_on_either_side(self):
        self.assertEqual((program(ROW) >> program(IS)).tree, ROW + (IS,))
        self.assertEqual((program(IS) >> program(ROW)).tree, ("row", IS) + ROW[1:])
        self.assertEqual((program(ROW) >> program(ROW)).tree, ROW + ROW[1:])

    def test_the_other_word_stays(self):
        self.assertEqual((program(ROW) + program(ROW)).tree, ("choice", ROW, ROW))
        self.assertEqual((program(CHOICE) >> program(CHOICE)).tree, ("row", CHOICE, CHOICE))
        self.assertEqual((program(ROW) + program(CHOICE)).tree, ("choice", ROW) + CHOICE[1:])
        self.assertEqual((program(ROW) >> program(CHOICE)).tree, ROW + (CHOICE,))

    def test_only_the_outermost_tree_is_replaced(self):
        inner = ("choice", CHOICE, IS)
        self.assertEqual((program(inner) + program(MARK)).tree, ("choice", CHOICE, IS, MARK))
        inner = ("row", IS, ROW)
        self.assertEqual((program(MARK) >> program(inner)).tree, ("row", MARK, IS, ROW))
        self.assertEqual((program(("loop", CHOICE)) + program(IS)).tree, ("choice", ("loop", CHOICE), IS))

    def test_the_fields_and_a_new_program(self):
        one, other = Program(("b", "a"), IS), Program(["a", "b"], ("set", "b", 3))
        for joined in (one + other, one >> other):
            self.assertIsInstance(joined, Program)
            self.assertEqual((joined.fields, joined.numbers), (("a", "b"), (1, 3)))
        self.assertEqual(one + other, Program(["a", "b"], ("choice", IS, ("set", "b", 3))))

    def test_what_was_joined_stays(self):
        one, other = program(CHOICE), program(ROW)
        for made in (one + other, one >> other, other + one, other >> one, one.loop(), ~program(IS)):
            self.assertIsInstance(made, Program)
        self.assertEqual((one.tree, other.tree), (CHOICE, ROW))
        joined = one
        joined += other
        self.assertEqual(one.tree, CHOICE)
        self.assertEqual(joined.tree, CHOICE + (ROW,))
        joined = other
        joined >>= one
        self.assertEqual(other.tree, ROW)
        self.assertEqual(joined.tree, ROW + (CHOICE,))

    def test_a_program_with_itself(self):
        one = program(MARK)
        self.assertEqual((one + one).tree, ("choice", MARK, MARK))
        self.assertEqual((one >> one).marks, 2)


class Turning(unittest.TestCase):
    def test_the_not_of_each_test(self):
        for tree in TESTS:
            fields = ["a", "abcdef", "is"]
            with self.subTest(tree):
                made = ~Program(fields, tree)
                self.assertIsInstance(made, Program)
                self.assertEqual((made.tree, made.fields), (("not", tree), ("a", "abcdef", "is")))
                self.assertEqual((~made).tree, ("not", ("not", tree)))

    def test_no_tests(self):
        for tree in ONLY_TREES:
            fields = ["a", "b"] + [name for name in ("set", "take") if name in tree[1:]]
            with self.subTest(tree):
                self.assertEqual(raised(BadTest, lambda: ~Program(fields, tree)).part, "program")

    def test_the_loop(self):
        for tree in (IS, MARK, ROW, CHOICE, ("loop", MARK)):
            with self.subTest(tree):
                self.assertEqual(program(tree).loop(), program(("loop", tree)))


class Errors(unittest.TestCase):
    def test_other_fields(self):
        one = Program(["a", "b"], PASS)
        for fields in (["a"], ["b"], ["a", "c"], ["a", "b", "c"], ["c"]):
            for work in (add, follow):
                with self.subTest(fields=fields, work=work.__name__):
                    raised(OtherFields, work, one, Program(fields, PASS))
                    raised(OtherFields, work, Program(fields, PASS), one)

    def test_other_fields_come_before_the_limits(self):
        deep, wide = nested(["loop"], 12), ("row",) + (PASS,) * 3999
        for work in (add, follow):
            raised(OtherFields, work, Program(["a"], deep), Program(["b"], deep))
            raised(OtherFields, work, Program(["a"], wide), Program(["b"], wide))

    def test_other_operands_are_refused_by_python(self):
        for thing in (1, None, MARK, ["a"]):
            for work in (add, follow):
                with self.subTest(thing=thing, work=work.__name__):
                    raised(TypeError, work, program(MARK), thing)
                    raised(TypeError, work, thing, program(MARK))

    def test_more_than_twelve_levels(self):
        for work in (add, follow):
            self.assertEqual(work(program(nested(["loop"], 11)), program(PASS)).tree[1], nested(["loop"], 11))
            raised(BadTree, work, program(nested(["loop"], 12)), program(PASS))
            raised(BadTree, work, program(PASS), program(nested(["loop"], 12)))
        # A choice is replaced by its inner trees, so that there is no level more.
        deep = ("choice", PASS, nested(["loop"], 11))
        self.assertEqual((program(deep) + program(PASS)).tree, deep + (PASS,))
        raised(BadTree, follow, program(deep), program(PASS))
        deep = ("row", PASS, nested(["loop"], 11))
        self.assertEqual((program(PASS) >> program(deep)).tree, ("row", PASS) + deep[1:])
        raised(BadTree, add, program(PASS), program(deep))

    def test_not_and_loop_of_twelve_levels(self):
        self.assertEqual((~program(nested(["not"], 11))).tree, nested(["not"], 12))
        raised(BadTree, lambda: ~program(nested(["not"], 12)))
        self.assertEqual(program(nested(["loop"], 11)).loop().tree, nested(["loop"], 12))
        raised(BadTree, program(nested(["loop"], 12)).loop)
        self.assertEqual(raised(BadTest, lambda: ~program(nested(["loop"], 12))).part, "program")

    def test_too_many_trees(self):
        wide = program(("row",) + (PASS,) * 3998)
        self.assertEqual(len((wide >> program(PASS)).tree), 4000)
        many = program(("row",) + (PASS,) * 3999)
        for work in (lambda: many >> program(PASS), lambda: many + program(PASS), lambda: ~many, many.loop,
                     lambda: wide + program(PASS), lambda: many >> many):
            error = raised(TooMany, work)
            self.assertEqual((error.what, error.most), ("trees", 4000))
        self.assertEqual((~wide).tree, ("not", wide.tree))
        self.assertEqual(wide.loop().tree, ("loop", wide.tree))

    def test_too_many_marks(self):
        three, four = program(("row",) + (MARK,) * 3), program(("row",) + (MARK,) * 4)
        for work in (add, follow):
            self.assertEqual(work(three, three).marks, 6)
            error = raised(TooMany, work, three, four)
            self.assertEqual((error.what, error.most), ("marks", 6))

    def test_too_many_numbers(self):
        low, high = program(("row",) + naming(5)), program(("row",) + naming(9)[1:])
        for work in (add, follow):
            self.assertEqual(work(low, program(("row",) + naming(8))).numbers, tuple(range(8)))
            error = raised(TooMany, work, low, high)
            self.assertEqual((error.what, error.most), ("numbers", 8))

    def test_levels_before_trees_and_trees_before_marks(self):
        deep = program(nested(["loop"], 12, MARK))
        wide = program(("row",) + (PASS,) * 3990 + (MARK,) * 6)
        for work in (add, follow):
            raised(BadTree, work, deep, wide)
        error = raised(TooMany, follow, wide, program(("row",) + (PASS,) * 10 + (MARK,) * 6))
        self.assertEqual(error.what, "trees")


if __name__ == "__main__":
    unittest.main()
