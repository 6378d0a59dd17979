import itertools
import random
import unittest

from markedways.errors import BadProgram, BadText, BadTree, TooMany
from markedways.programs import Program, is_tree
from markedways.texts import program_text, read_program, read_tree, tree_text
from oracle import a_test, a_tree
from samplers import DROP, MARK, PASS, at, choice, loop, pair, put, row, six_marks, solo, take, walk
from test_programs import raised
from test_trees import NEARLY, nested
from values import no_programs, odd_values

A, B = at("a", 1), put("b", 20)
TEXTS = [
    (PASS, "pass"), (DROP, "drop"), (MARK, "mark"), (A, "a=1"), (B, "b:=20"), (take("a", "b"), "a:=b"),
    (at("a", 0), "a=0"),
    (put("abcdef", 0), "abcdef:=0"), (take("x", "abcdef"), "x:=abcdef"), (at("is", 10 ** 12), "is=1000000000000"),
    (put("set", 10 ** 99), "set:=" + "1" + "0" * 99), (take("take", "loop"), "take:=loop"),
    (at("fields", 5), "fields=5"),
    (("not", A), "not a=1"), (("not", ("not", A)), "not not a=1"),
    (("not", ("not", ("not", PASS))), "not not not pass"),
    (("not", row(A, PASS)), "not (a=1; pass)"), (("not", choice(A, PASS)), "not (a=1 + pass)"),
    (("not", ("not", row(A, PASS))), "not not (a=1; pass)"), (at("nots", 1), "nots=1"),
    (("not", at("nota", 1)), "not nota=1"),
    (loop(A), "a=1*"), (loop(loop(A)), "a=1**"), (loop(loop(loop(MARK))), "mark***"), (loop(B), "b:=20*"),
    (loop(take("a", "b")), "a:=b*"), (loop(row(A, B)), "(a=1; b:=20)*"), (loop(choice(A, B)), "(a=1 + b:=20)*"),
    (loop(("not", A)), "(not a=1)*"), (loop(loop(row(A, B))), "(a=1; b:=20)**"),
    (loop(loop(("not", A))), "(not a=1)**"),
    (row(A, B), "a=1; b:=20"), (row(A, B, MARK, PASS), "a=1; b:=20; mark; pass"),
    (row(row(A, B), MARK), "(a=1; b:=20); mark"),
    (row(A, row(B, MARK)), "a=1; (b:=20; mark)"), (row(A, choice(B, MARK)), "a=1; (b:=20 + mark)"),
    (row(A, loop(B)), "a=1; b:=20*"), (row(loop(A), loop(row(B, B))), "a=1*; (b:=20; b:=20)*"),
    (row(("not", A), A), "not a=1; a=1"),
    (choice(A, B), "a=1 + b:=20"), (choice(A, B, MARK, PASS), "a=1 + b:=20 + mark + pass"),
    (choice(choice(A, B), MARK), "(a=1 + b:=20) + mark"), (choice(A, choice(B, MARK)), "a=1 + (b:=20 + mark)"),
    (choice(A, row(B, MARK)), "a=1 + b:=20; mark"), (choice(row(A, B), row(B, A)), "a=1; b:=20 + b:=20; a=1"),
    (choice(row(row(A, B), B), A), "(a=1; b:=20); b:=20 + a=1"), (choice(A, loop(B)), "a=1 + b:=20*"),
    (choice(("not", A), A), "not a=1 + a=1"), (choice(A, row(B, choice(A, A))), "a=1 + b:=20; (a=1 + a=1)"),
    (("not", row(("not", choice(A, A)), A)), "not (not (a=1 + a=1); a=1)"),
    (loop(row(A, loop(choice(A, B)))), "(a=1; (a=1 + b:=20)*)*"),
    (row(row(row(A, A), A), row(A, A)), "((a=1; a=1); a=1); (a=1; a=1)"),
    (choice(choice(A, choice(A, A)), A), "(a=1 + (a=1 + a=1)) + a=1"),
    (loop(row(loop(MARK), ("not", A))), "(mark*; not a=1)*"),
]
NO_TEXTS = [
    "", " ", "\n", "pass ", " pass", "pass\n", "\npass", "Pass", "PASS", "passe", "pas", "drop;", "mark.", "(pass)",
    "((pass))", "()",
    "(", ")", "(pass", "pass)", ")pass(", "a", "a=", "=1", "a:=", ":=1", "a==1", "a=b", "a=-1", "a=+1", "a=1.0",
    "a=1 ", "a= 1",
    "a =1", "a = 1", "a=01", "a=00", "a=007", "a:=01", "a:= 1", "a :=1", "a: =1", "a:=a", "abc:=abc", "A=1", "a1=1",
    "a_b=1",
    "abcdefg=1", "pass=1", "drop=1", "mark:=1", "not=1", "a:=pass", "a:=not", "a:=mark", "a:=A", "a:=abcdefg", "1=a",
    "1", "a=1e3",
    "a=1_0", "a=0x1", "a=1;b=2", "a=1 ;b=2", "a=1 ; b=2", "a=1;  b=2", "a=1;\nb=2", "a=1; ", "; a=1", "a=1; ; b=2",
    ";", "; ",
    "a=1+b=2", "a=1 +b=2", "a=1+ b=2", "a=1  + b=2", "a=1 +  b=2", "a=1 + ", " + a=1", "+", " + ", "a=1 + + b=2",
    "a=1 + ; b=2",
    "a=1 b=2", "a=1, b=2", "a=1 - b=2", "not", "not ", "notpass", "not  pass", "not(pass)", "not (pass)", "not pass ",
    "not mark",
    "not a:=1", "not a:=b", "not mark*", "not pass*", "not (pass*)", "not (mark; pass)", "not (pass; mark)",
    "not a=1*", "pass not",
    "not not", "not (not pass)", "not (a=1)", "*", "**", "*pass", "pass *", "pass* *", "pass* ", "(pass)*", "(pass*)*",
    "(pass*)", "()*",
    "(a=1; b=2", "a=1; b=2)", "(a=1; b=2)", "(a=1 + b=2)", "((a=1; b=2))*", "((a=1; b=2)*)*", "(a=1)(b=2)", "(a=1);",
    "(a=1); b=2",
    "a=1; (b=2)", "(a=1; b=2) + a=3", "a=3 + (a=1; b=2)", "a=1 + (b=2)", "(a=1*) + b=2", "(not a=1); b=2",
    "(not a=1) + b=2",
    "not (not a=1)", "(a=1; b=2)(a=1; b=2)*", "a=1; b=2*)", "(a=1 + b=2)* *", "a=1 or b=2", "a=1 | b=2", "a=1\t",
    "a=1;\tb=2",
    "not a=1 ; b=2", "fields a\npass\n", "a=1 + (b=2; c=3", "(a=1 + b=2; c=3)", "pass pass", "row", "loop pass",
    "is a 1",
]


def shown(tree):
    """Point 100: the text of a tree, the parentheses told case by case."""
    word, inner = tree[0], tree[1:]
    texts = [shown(part) if isinstance(part, tuple) else part for part in inner]
    around = []
    for part, text in zip(inner, texts):
        if isinstance(part, tuple):
            enclosed = ((word == "choice" and part[0] == "choice") or (word == "row" and part[0] in ("row", "choice"))
                        or (word == "not" and part[0] in ("row", "choice"))
                        or (word == "loop" and part[0] in ("row", "choice", "not")))
            around.append("(" + text + ")" if enclosed else text)
    if word in ("pass", "drop", "mark"):
        return word
    if word in ("is", "set", "take"):
        return texts[0] + ("=" if word == "is" else ":=") + str(texts[1])
    return {"not": "not " + around[0], "loop": around[0] + "*", "row": "; ".join(around),
            "choice": " + ".join(around)}[word]


class Trees(unittest.TestCase):
    def test_each_form(self):
        for tree, text in TEXTS:
            with self.subTest(text):
                self.assertEqual(tree_text(tree), text)
                self.assertEqual(read_tree(text), tree)

    def test_other_texts(self):
        for text in NO_TEXTS:
            with self.subTest(text):
                self.assertEqual(raised(BadText, read_tree, text).line, 0)

    def test_other_values(self):
        for thing in [*odd_values(), 1, [], ("pass",), ["pass"], PASS, {"pass": 1}, b"pass"]:
            if thing != "pass":
                with self.subTest(thing):
                    self.assertEqual(raised(BadText, read_tree, thing).line, 0)

    def test_no_trees(self):
        for thing in NEARLY + [value for value in odd_values()] + [nested(["loop"], 13), nested(["row", "choice"], 13)]:
            with self.subTest(thing):
                raised(BadTree, tree_text, thing)

    def test_random_trees_are_read_as_they_were_written(self):
        chance = random.Random(1001)
        for _ in range(600):
            tree = a_tree(chance, ["a", "b", "cd"], [0, 1, 10, 10 ** 12], chance.choice((2, 3, 4, 5, 6)))
            if chance.random() < 0.3:
                tree = a_test(chance, ["a", "b"], [0, 12], 5)
            text = tree_text(tree)
            self.assertEqual(text, shown(tree))
            self.assertEqual(read_tree(text), tree)

    def test_texts_with_one_thing_otherwise(self):
        chance = random.Random(1002)
        counts = {True: 0, False: 0}
        for _ in range(3000):
            text = tree_text(a_tree(chance, ["a", "b"], [0, 1, 10], chance.choice((2, 3, 4))))
            at_index = chance.randrange(len(text) + 1)
            sign = chance.choice(["", "", " ", "(", ")", "*", "; ", " + ", "not ", "0", "1", "a", ":", "=", "\n"])
            other = text[:at_index] + sign + text[at_index + chance.choice((0, 0, 1, 2)):]
            try:
                tree = read_tree(other)
            except BadText as error:
                self.assertEqual(error.line, 0)
                counts[False] += 1
            else:
                self.assertTrue(is_tree(tree))
                self.assertEqual(shown(tree), other)
                counts[True] += 1
        self.assertGreater(min(counts.values()), 300)

    def test_all_texts_of_few_pieces(self):
        # Fields of six letters, so that no two pieces side by side are another field.
        leaves = {"pass": PASS, "abcdef=1": at("abcdef", 1), "abcdef:=fedcba": take("abcdef", "fedcba")}
        pieces = [*leaves, "not ", "*", "(", ")", " + ", "; "]
        most = 5
        texts = {}
        for tree in trees_of_few_pieces(list(leaves.values()), most):
            texts[shown(tree)] = tree
        read = 0
        for many in range(1, most + 1):
            for some in itertools.product(pieces, repeat=many):
                text = "".join(some)
                if text in texts:
                    self.assertEqual(read_tree(text), texts[text])
                    read += 1
                else:
                    with self.subTest(text):
                        self.assertEqual(raised(BadText, read_tree, text).line, 0)
        self.assertEqual(read, len(texts))
        self.assertGreater(read, 300)

    def test_up_to_twelve_levels(self):
        for words in (["loop"], ["not"], ["row"], ["choice"], ["row", "choice"], ["choice", "row", "not"],
                      ["row", "loop"],
                      ["choice", "loop", "loop"]):
            for levels in (11, 12):
                tree = nested(words, levels, A)
                if is_tree(tree):
                    self.assertEqual(read_tree(shown(tree)), tree)
            if is_tree(nested(words, 12, A)):
                self.assertEqual(raised(BadText, read_tree, shown(nested(words, 13, A))).line, 0)
        self.assertEqual(read_tree("mark" + "*" * 11), nested(["loop"], 12, MARK))

    def test_very_deep_texts(self):
        for text in ("(" * 4000, "mark" + "*" * 3990, "not " * 999, "not " * 900 + "pass",
                     "(" * 1900 + "a=1; b=2" + ")*" * 1000,
                     "(" * 1990 + "pass" + ")" * 1990, "(a=1; " * 600 + "a=1" + ")" * 300, ")" * 4000, "; " * 2000,
                     " + " * 1300):
            self.assertEqual(raised(BadText, read_tree, text).line, 0)

    def test_long_texts(self):
        tree = row(*[choice(A, put("b", number)) for number in range(200)])
        self.assertEqual(read_tree(tree_text(tree)), tree)
        tree = row(*[at("a", 10 ** 99)] * 37)
        self.assertEqual(len(tree_text(tree)), 37 * 104 - 2)
        self.assertEqual(read_tree(tree_text(tree)), tree)
        self.assertEqual(read_tree("a=1" + "0" * 3990), at("a", 10 ** 3990))

    def test_by_name(self):
        self.assertEqual(read_tree(text="a=1"), A)
        self.assertEqual(tree_text(tree=A), "a=1")


def trees_of_few_pieces(leaves, most):
    """All trees the texts of which have at most so many pieces; leaves, signs and parentheses are pieces."""
    found = {1: list(leaves)}
    for many in range(2, most + 1):
        found[many] = []
        for inner_many in range(1, many):
            for inner in found[inner_many]:
                for word in ("loop", "not"):
                    tree = (word, inner)
                    if pieces_in(tree) == many and is_tree(tree):
                        found[many].append(tree)
        for word in ("row", "choice"):
            for parts in list(tuples_of(found, many)):
                tree = (word, *parts)
                if len(parts) >= 2 and pieces_in(tree) == many:
                    found[many].append(tree)
    return [tree for some in found.values() for tree in some]


def tuples_of(found, most):
    """All tuples of trees that have at most so many pieces together, one sign between two of them."""
    yield ()
    for many in range(1, most + 1):
        for tree in found.get(many, ()):
            for rest in tuples_of(found, most - many - 1):
                yield (tree, *rest)


def pieces_in(tree):
    text = shown(tree)
    for piece in ("pass", "abcdef=1", "abcdef:=fedcba", "not ", " + ", "; "):
        text = text.replace(piece, "#")
    return len(text)


class Programs(unittest.TestCase):
    def test_two_lines(self):
        for program, text in (
                (solo(PASS), "fields a\npass\n"), (pair(row(A, B)), "fields a b\na=1; b:=20\n"),
                (Program(["to", "at", "tag"], at("to", 5)), "fields at tag to\nto=5\n"),
                (Program(["fields"], ("set", "fields", 1)), "fields fields\nfields:=1\n"),
                (walk(), "fields at tag\n(at=1; mark; at:=2 + at=2; mark; tag:=at; at:=1)*\n")):
            self.assertEqual(program_text(program), text)
            found = read_program(text)
            self.assertIsInstance(found, Program)
            self.assertEqual(found, program)
            self.assertEqual((found.fields, found.numbers, found.marks),
                             (program.fields, program.numbers, program.marks))

    def test_random_programs(self):
        chance = random.Random(1003)
        for _ in range(200):
            fields = chance.sample(["a", "b", "cd", "abcdef"], chance.choice((1, 2, 3)))
            tree = a_tree(chance, fields, [0, 1, 10], chance.choice((2, 3, 4)))
            if repr(tree).count("'mark'") <= 6:
                program = Program(fields, tree)
                text = program_text(program)
                self.assertEqual(text, "fields " + " ".join(sorted(fields)) + "\n" + shown(tree) + "\n")
                self.assertEqual(read_program(text), program)

    def test_first_lines(self):
        for line in ("", "fields", "fields ", "fields  a", "fields a ", " fields a", "Fields a", "field a", "fieldsa",
                     "fields a  b",
                     "fields b a", "fields a a", "fields a b c d", "fields A", "fields a,b", "fields abcdefg",
                     "fields pass",
                     "fields a not", "fields 1", "fields a\t", "a", "fields: a", "fields a b b", "fields a c b", "a b",
                     "fields a1"):
            for rest in ("\npass\n", "\n", "", "\npass", "\npass\nmore", "\nnone\n"):
                with self.subTest(line + rest):
                    self.assertEqual(raised(BadText, read_program, line + rest).line, 0)
        for text in ("fields a", "fields a b", "fields a pass", "pass", "pass\n", "\nfields a\npass\n"):
            self.assertEqual(raised(BadText, read_program, text).line, 0)

    def test_other_values(self):
        for thing in [*odd_values(), 1, None, ["fields a\npass\n"], ("fields a\npass\n",), b"fields a\npass\n",
                      solo(PASS)]:
            with self.subTest(thing):
                self.assertEqual(raised(BadText, read_program, thing).line, 0)

    def test_second_lines(self):
        for line in NO_TEXTS:
            if "\n" not in line:
                for end in ("\n", "", "\nmore", "\n\n"):
                    with self.subTest(line + end):
                        self.assertEqual(raised(BadText, read_program, "fields a b\n" + line + end).line, 1)
        for line in ("c=1", "c:=1", "c:=a", "a:=c", "a=1; c=1", "(a=1 + not c=1)*"):
            for end in ("\n", "", "\nmore"):
                self.assertEqual(raised(BadText, read_program, "fields a b\n" + line + end).line, 1)
        for text in ("fields a\npass", "fields a\n", "fields a\n\n", "fields a\n\npass\n", "fields a\n pass\n",
                     "fields a\nb=1\n"):
            self.assertEqual(raised(BadText, read_program, text).line, 1)

    def test_what_stands_behind(self):
        for behind in ("\n", " ", "pass", "pass\n", "fields a\npass\n", "\n\n"):
            self.assertEqual(raised(BadText, read_program, "fields a\npass\n" + behind).line, 2)

    def test_too_many_behind_everything_else(self):
        nine = " + ".join(f"a={number}" for number in range(9))
        seven = "; ".join(["mark"] * 7)
        for tree, what, most in ((nine, "numbers", 8), (seven, "marks", 6), (f"({nine}); {seven}", "marks", 6)):
            error = raised(TooMany, read_program, f"fields a\n{tree}\n")
            self.assertEqual((error.what, error.most), (what, most))
            self.assertEqual(raised(BadText, read_program, f"fields a\n{tree}").line, 1)
            self.assertEqual(raised(BadText, read_program, f"fields b\n{tree}; a=1\n").line, 1)
            self.assertEqual(raised(BadText, read_program, f"fields a\n{tree}\n ").line, 2)
            self.assertEqual(raised(BadText, read_program, f"fields\n{tree}\n").line, 0)
        text = "fields a\n" + "; ".join(["pass"] * 4000) + "\n"
        error = raised(TooMany, read_program, text)
        self.assertEqual((error.what, error.most), ("trees", 4000))
        self.assertEqual(read_program(text.replace("pass; ", "", 1)).tree, row(*[PASS] * 3999))

    def test_no_programs(self):
        for thing in no_programs():
            self.assertEqual(raised(BadProgram, program_text, thing).part, "program")

    def test_a_program_that_was_read_answers_as_one_made_anew(self):
        program = six_marks()
        found = read_program(program_text(program))
        self.assertEqual(found((1, 1)), program((1, 1)))
        self.assertEqual((found + found).tree, (program + program).tree) if found.marks < 4 else None
        self.assertEqual(read_program(text=program_text(program=program)), program)
        self.assertEqual(~read_program("fields a\na=1\n"), solo(("not", A)))


if __name__ == "__main__":
    unittest.main()
