import random
import unittest

from markedways.programs import Program, is_test, is_tree
from oracle import a_test, a_tree
from values import odd_values

PASS, DROP, MARK, IS = ("pass",), ("drop",), ("mark",), ("is", "a", 1)

TESTS = [
    PASS, DROP, IS, ("is", "abcdef", 0), ("is", "is", 10 ** 99), ("row", PASS, IS), ("choice", DROP, IS),
    ("row", PASS, PASS, PASS, PASS), ("choice",) + (IS,) * 50, ("not", PASS), ("not", ("not", IS)),
    ("not", ("row", IS, ("choice", PASS, ("not", DROP)))), ("row", ("choice", IS, IS), ("not", IS)),
    ("row", ("row", IS, IS), IS), ("choice", ("choice", IS, IS), IS),
]

ONLY_TREES = [
    MARK, ("set", "a", 0), ("set", "set", 10 ** 99), ("take", "a", "b"), ("take", "take", "a"), ("loop", PASS),
    ("loop", ("loop", MARK)), ("row", PASS, MARK), ("row", MARK, PASS), ("choice", PASS, PASS, ("set", "a", 1)),
    ("row", PASS, ("choice", DROP, ("row", IS, ("take", "b", "a")))), ("loop", ("row", ("not", IS), MARK)),
    ("choice", ("not", IS), ("loop", IS)),
]

NEARLY = [
    (), ("pass", 1), ("pass", PASS), ("drop", ()), ("mark", 1), ("mark", "a"), ("is",), ("is", "a"), ("is", "a", 1, 1),
    ("is", "a", -1), ("is", "a", True), ("is", "a", False), ("is", "a", None), ("is", "a", "1"), ("is", "a", "b"),
    ("is", "A", 1), ("is", "", 1), ("is", "pass", 1), ("is", "abcdefg", 1), ("is", 1, "a"), ("is", None, 1),
    ("is", ["a"], 1), ("is", "a", [1]), ("is", "a", (1,)), ("set",), ("set", "a"), ("set", "a", 1, 1),
    ("set", "a", -1), ("set", "a", True), ("set", "a", "b"), ("set", "mark", 1), ("take",), ("take", "a"),
    ("take", "a", "a"), ("take", "a", 1), ("take", 1, "a"), ("take", "a", "not"), ("take", "drop", "a"),
    ("take", "a", "b", "c"), ("take", ["a"], ["b"]), ("row",), ("row", PASS), ("choice",), ("choice", PASS),
    ("row", PASS, ()), ("row", PASS, "pass"), ("row", PASS, ["pass"]), ("row", (PASS, PASS)), ("choice", PASS, None),
    ("choice", PASS, 1, PASS), ("loop",), ("loop", PASS, PASS), ("loop", "pass"), ("loop", ()), ("loop", ["pass"]),
    ("not",), ("not", PASS, PASS), ("not", "pass"), ("not", ()), ("not", MARK), ("not", ("set", "a", 1)),
    ("not", ("take", "a", "b")), ("not", ("loop", PASS)), ("not", ("row", PASS, MARK)),
    ("not", ("choice", IS, ("row", IS, ("loop", IS)))), ("not", ("not", MARK)),
    ("row", PASS, ("not", ("choice", PASS, ("set", "a", 1)))), ("loop", ("not", ("not", ("take", "a", "b")))),
    ["pass"], ["row", PASS, PASS], ("row", PASS, ["is", "a", 1]), ("PASS",), ("Row", PASS, PASS), ("",), ("a",),
    ("test", PASS), ("if", PASS, PASS), (None,), (0,), (True,), (PASS,), (["pass"],), ({},), (("pass",), 1),
    (Program(["a"], PASS),), ("loop", Program(["a"], PASS)), Program(["a"], PASS), ("p", "ass"), "pass", "is",
]


def nested(words, levels, leaf=PASS):
    """A tree of so many levels that has these words in turn."""
    tree = leaf
    for at in range(levels - 1):
        word = words[at % len(words)]
        tree = (word, tree) if word in ("loop", "not") else (word, PASS, tree)
    return tree


class Trees(unittest.TestCase):
    def test_each_form(self):
        for tree in TESTS:
            with self.subTest(tree):
                self.assertIs(is_tree(tree), True)
                self.assertIs(is_test(tree), True)
        for tree in ONLY_TREES:
            with self.subTest(tree):
                self.assertIs(is_tree(tree), True)
                self.assertIs(is_test(tree), False)

    def test_nearly_right_ones(self):
        for thing in NEARLY:
            with self.subTest(thing):
                self.assertIs(is_tree(thing), False)
                self.assertIs(is_test(thing), False)

    def test_nearly_right_ones_deep_within(self):
        for thing in NEARLY:
            for around in (("row", PASS, thing), ("choice", thing, PASS), ("loop", ("row", IS, IS, thing)),
                           ("not", ("choice", IS, ("row", thing, IS)))):
                with self.subTest(around):
                    self.assertIs(is_tree(around), False)
                    self.assertIs(is_test(around), False)

    def test_any_other_value(self):
        for thing in odd_values():
            for value in (thing, (thing,), ("row", PASS, thing), ("loop", thing), ("not", thing), ("is", "a", thing)):
                if value == ("is", "a", 7) or value == ("is", "a", 10 ** 99) or value == ("pass",):
                    continue
                with self.subTest(value):
                    self.assertIs(is_tree(value), False)
                    self.assertIs(is_test(value), False)

    def test_twelve_levels_and_thirteen(self):
        for words in (["row"], ["choice"], ["not"], ["row", "choice", "not"]):
            for leaf in (PASS, IS):
                with self.subTest(words=words, leaf=leaf):
                    self.assertIs(is_tree(nested(words, 12, leaf)), True)
                    self.assertIs(is_test(nested(words, 12, leaf)), True)
                    self.assertIs(is_tree(nested(words, 13, leaf)), False)
                    self.assertIs(is_test(nested(words, 13, leaf)), False)
                    self.assertIs(is_test(nested(words, 19, leaf)), False)
        for words in (["loop"], ["loop", "row"], ["choice", "loop"]):
            for leaf in (PASS, MARK, ("set", "a", 1), ("take", "a", "b")):
                with self.subTest(words=words, leaf=leaf):
                    self.assertIs(is_tree(nested(words, 12, leaf)), True)
                    self.assertIs(is_tree(nested(words, 13, leaf)), False)

    def test_one_branch_that_is_too_deep(self):
        self.assertIs(is_tree(("row", PASS, nested(["not"], 12), PASS)), False)
        self.assertIs(is_tree(("row", PASS, nested(["not"], 11), PASS)), True)

    def test_no_limit_to_the_number_of_trees(self):
        self.assertIs(is_tree(("row",) + (MARK,) * 5000), True)
        self.assertIs(is_test(("choice",) + tuple(("is", "a", n) for n in range(5000))), True)
        self.assertIs(is_tree(("row", ("set", "a", 1), ("set", "b", 1), ("set", "c", 1), ("set", "d", 1))), True)

    def test_made_up_ones(self):
        chance = random.Random(20)
        for _ in range(300):
            self.assertIs(is_test(a_test(chance, ["a", "b"], [0, 1], 5)), True)
            self.assertIs(is_tree(a_tree(chance, ["a", "b"], [0, 1], 6)), True)

    def test_by_name(self):
        self.assertIs(is_tree(thing=MARK), True)
        self.assertIs(is_test(thing=MARK), False)


if __name__ == "__main__":
    unittest.main()
