import random
import unittest

from markedways.desk import Desk
from markedways.errors import BadFields, TooMany, WayError
from markedways.likeness import beyond, parting
from markedways.parts import idle_parts
from markedways.programs import Program
from markedways.rounds import most_marks
from markedways.texts import tree_text
from markedways.ways import ways
from oracle import a_tree
from samplers import PASS
from test_packets import NO_FIELDS
from test_programs import raised
from test_texts import NO_TEXTS, TEXTS
from values import odd_values

NO_NAMES = ["", "none", "unknown", "abcdefghi", "A", "aB", "a1", "a_b", "a-b", "1", "a.", "(a)"]
NAMES = ["a", "z", "abcdefgh", "let", "undo", "names", "pass", "drop", "mark", "not", "fields", "unknowns", "non",
         "nones", "ok"]


def desk(*lines, fields=("a", "b")):
    """A desk of these fields at which these lines were said; each one is a let."""
    one = Desk(list(fields))
    for line in lines:
        if one.say("let " + line) != "ok":
            raise AssertionError(line)
    return one


def shown(way):
    return " > ".join("(" + ",".join(str(number) for number in packet) + ")" for packet in way)


class Lets(unittest.TestCase):
    def test_a_program_has_a_name(self):
        one = Desk(["b", "a"])
        for tree, text in TEXTS:
            if set("abcdefghijklmnopqrstuvwxyz") & set(text) and "abcdef" not in text and "x" not in text:
                answer = one.say("let p = " + text)
                if answer == "ok":
                    self.assertEqual(one.say("show p"), text)
                else:
                    self.assertEqual(answer, "error BadTree")

    def test_names(self):
        for name in NAMES:
            one = Desk(["a"])
            self.assertEqual(one.say(f"let {name} = a=1"), "ok")
            self.assertEqual(one.say(f"show {name}"), "a=1")
            self.assertEqual(one.say("names"), name)
            self.assertEqual(one.say(f"alike {name} {name}"), "yes")
        for name in NO_NAMES:
            one = desk("x = pass")
            for line in (f"let {name} = pass", f"show {name}", f"ways {name} (1,2) 1", f"alike {name} x",
                         f"alike x {name}",
                         f"within {name} x", f"within x {name}", f"most {name}", f"idle {name}"):
                with self.subTest(line):
                    self.assertEqual(one.say(line), "unknown")
            self.assertEqual(one.say("names"), "x")

    def test_a_name_given_anew(self):
        one = desk("x = a=1", "x = a=2", "y = mark", "x = a=3")
        self.assertEqual((one.say("show x"), one.say("names")), ("a=3", "x y"))
        for shown_x, names in (("a=2", "x y"), ("a=2", "x"), ("a=1", "x")):
            self.assertEqual(one.say("undo"), "ok")
            self.assertEqual((one.say("show x"), one.say("names")), (shown_x, names))
        self.assertEqual(one.say("undo"), "ok")
        self.assertEqual((one.say("show x"), one.say("names")), ("error BadName", "none"))
        self.assertEqual(one.say("undo"), "error NothingLeft")

    def test_undo_takes_just_the_last_let_back_that_stands(self):
        one = desk("x = a=1", "y = a=2")
        self.assertEqual(one.say("undo"), "ok")
        self.assertEqual(one.say("let z = a=3"), "ok")
        self.assertEqual(one.say("undo"), "ok")
        self.assertEqual(one.say("names"), "x")
        for line in ("let x = c=1", "let x = pass pass", "show y", "most x", "names"):
            one.say(line)
        self.assertEqual(one.say("undo"), "ok")
        self.assertEqual(one.say("names"), "none")
        for _ in range(3):
            self.assertEqual(one.say("undo"), "error NothingLeft")
        self.assertEqual(one.say("let x = pass"), "ok")
        self.assertEqual(one.say("names"), "x")

    def test_trees_of_other_fields(self):
        one = desk("x = a=1")
        for text in ("c=1", "c:=1", "a:=c", "c:=a", "a=1; (c=1 + mark)*", "not c=1"):
            for name in ("x", "y"):
                self.assertEqual(one.say(f"let {name} = {text}"), "error BadTree")
        self.assertEqual((one.say("names"), one.say("show x")), ("x", "a=1"))

    def test_too_many(self):
        one = desk("x = a=1")
        nine = " + ".join(f"a={number}" for number in range(9))
        for text in (nine, "; ".join(["mark"] * 7)):
            self.assertEqual(one.say("let x = " + text), "error TooMany")
            self.assertEqual(one.say("let y = " + text), "error TooMany")
        self.assertEqual(one.say("let z = c=1; " + "; ".join(["mark"] * 7)), "error BadTree")
        self.assertEqual((one.say("names"), one.say("show x")), ("x", "a=1"))
        self.assertEqual(one.say("undo"), "ok")
        self.assertEqual(one.say("undo"), "error NothingLeft")

    def test_texts_of_no_tree(self):
        one = desk("x = a=1")
        for text in NO_TEXTS:
            with self.subTest(text):
                self.assertEqual(one.say("let x = " + text), "unknown")
        self.assertEqual((one.say("names"), one.say("show x")), ("x", "a=1"))

    def test_other_forms_of_let(self):
        one = Desk(["a", "b"])
        for line in ("let", "let ", "let x", "let x ", "let x =", "let x = ", "let x pass", "let x=pass",
                     "let x =pass", "let x= pass",
                     "let  x = pass", "let x  = pass", "let x =  pass", "let x = pass ", " let x = pass",
                     "let x = pass\n", "Let x = pass",
                     "let x = y = pass", "let = pass", "let  = pass", "let x y = pass", "letx = pass", "let x := pass",
                     "let x = x",
                     "let x == pass", "let x = pass = pass", "let\nx = pass", "let x\t= pass", "let x = a=1\n",
                     "x = pass"):
            with self.subTest(line):
                self.assertEqual(one.say(line), "unknown")
        self.assertEqual(one.say("names"), "none")

    def test_twelve_programs_and_forty_deeds(self):
        one = Desk(["a"])
        for number in range(40):
            self.assertEqual(one.say(f"let {'abcdefghijkl'[number % 12]} = a={number}"), "ok")
        self.assertEqual(one.say("names"), "a b c d e f g h i j k l")
        self.assertEqual((one.say("show d"), one.say("show e")), ("a=39", "a=28"))
        for number in range(39, -1, -1):
            self.assertEqual(one.say(f"show {'abcdefghijkl'[number % 12]}"), f"a={number}")
            self.assertEqual(one.say("undo"), "ok")
        self.assertEqual(one.say("names"), "none")


class Forms(unittest.TestCase):
    RIGHT = ["undo", "names", "show x", "ways x (1,2) 3", "alike x y", "within x y", "most x", "idle x"]

    def test_right_ones(self):
        for line in self.RIGHT:
            one = desk("x = a=1; mark", "y = pass")
            self.assertNotIn(one.say(line).split()[0], ("unknown", "error"))

    def test_spaces_and_newlines(self):
        one = desk("x = a=1; mark", "y = pass")
        for line in self.RIGHT:
            for other in (" " + line, line + " ", line + "\n", "\n" + line, line.replace(" ", "  "),
                          line.replace(" ", "\n"),
                          line.replace(" ", ""), line.upper(), line.capitalize(), line + " x", line + ".", line[:-1],
                          line[1:], line + "\n\n"):
                if other != line:
                    with self.subTest(other):
                        self.assertEqual(one.say(other), "unknown")
        self.assertEqual(one.say("names"), "x y")

    def test_words_that_are_missing_or_too_many(self):
        one = desk("x = a=1; mark", "y = pass")
        for line in ("", " ", "\n", "show", "ways", "ways x", "ways x (1,2)", "ways (1,2) 1", "ways x 1",
                     "ways x 1 (1,2)", "alike", "alike x",
                     "within", "within x", "most", "idle", "undo x", "undo 1", "names x", "show x y", "most x y",
                     "idle x y", "alike x y x",
                     "within x y x", "ways x (1,2) 3 4", "ways x y (1,2) 3", "parting x y", "help", "x", "beyond x y",
                     "show x; show y",
                     "undo\nundo", "ways x (1,2) 3 "):
            with self.subTest(line):
                self.assertEqual(one.say(line), "unknown")

    def test_packets(self):
        one = desk("x = mark", fields=("a", "b"))
        for word in ("(01,2)", "(1,02)", "(00,1)", "(1234567890123,1)", "(1,1234567890123)", "()", "(,)", "(1,)",
                     "(,1)", "(1,,2)", "1,2",
                     "(1,2", "1,2)", "(1;2)", "(1 ,2)", "(1,-2)", "(+1,2)", "(1,b)", "(1.0,2)", "((1,2))", "[1,2]", "(1,23", "11,2)", "11,23",
                     "(1,2]", "[1,2)",
                     "(a,b)", "(1,2),", "(1_0,2)"):
            for bound in ("1", "7"):
                with self.subTest(word):
                    self.assertEqual(one.say(f"ways x {word} {bound}"), "unknown")
                    self.assertEqual(one.say(f"ways none {word} {bound}"), "unknown")
        for word in ("(0,0)", "(0,10)", "(123456789012,999999999999)", "(1,2)", "(100000000000,0)"):
            self.assertEqual(one.say(f"ways x {word} 1"), f"{word} > {word}")

    def test_packets_with_too_many_or_too_few_numbers(self):
        for fields, words in ((("a", "b"), ("(1)", "(1,2,3)", "(0)", "(1,2,3,4)")), (("a",), ("(1,2)", "(1,2,3)")),
                              (("a", "b", "c"), ("(1)", "(1,2)", "(1,2,3,4)"))):
            one = desk("x = mark", fields=fields)
            for word in words:
                self.assertEqual(one.say(f"ways x {word} 1"), "error BadPacket")
                self.assertEqual(one.say(f"ways x {word} 7"), "error BadPacket")
                self.assertEqual(one.say(f"ways y {word} 1"), "error BadName")

    def test_bounds(self):
        one = desk("x = mark*")
        for bound in ("10", "00", "01", "-1", "+1", "a", "1.", "", "1,", "(1)", "66"):
            self.assertEqual(one.say(f"ways x (1,2) {bound}"), "unknown")
        for bound in ("7", "8", "9"):
            self.assertEqual(one.say(f"ways x (1,2) {bound}"), "error BadMost")
            self.assertEqual(one.say(f"ways y (1,2) {bound}"), "error BadName")
            self.assertEqual(one.say(f"ways x (1) {bound}"), "error BadPacket")
        for bound in range(7):
            self.assertEqual(len(one.say(f"ways x (1,2) {bound}").split("; ")), bound + 1)

    def test_names_that_are_none(self):
        one = desk("x = mark")
        for line in ("show y", "ways y (1,2) 3", "alike y x", "alike x y", "alike y y", "within y x", "within x y",
                     "most y", "idle y",
                     "show names", "most xx"):
            self.assertEqual(one.say(line), "error BadName")
        self.assertEqual(one.say("names"), "x")

    def test_any_other_value(self):
        one = desk("x = mark")
        for thing in [*odd_values(), ["names"], ("names",), b"names", 1, None, {"names": 1}, Program(["a"], PASS), one]:
            if thing != "names":
                self.assertEqual(one.say(thing), "unknown")

    def test_by_name(self):
        one = Desk(fields=["a"])
        self.assertEqual(one.say(line="names"), "none")


class Answers(unittest.TestCase):
    def test_names_ascending(self):
        one = desk("b = pass", "a = pass", "ba = pass", "ab = mark")
        self.assertEqual(one.say("names"), "a ab b ba")
        self.assertEqual(Desk(["a"]).say("names"), "none")

    def test_ways(self):
        one = desk("w = (a=1; mark; a:=2 + a=2; mark; b:=a; a:=1)*", "d = drop", "c = a:=2 + mark; a:=1", "n = not a=1")
        self.assertEqual(one.say("ways w (1,7) 2"), "(1,7); (1,7) > (2,7); (1,7) > (2,7) > (1,2)")
        self.assertEqual(one.say("ways w (1,7) 0"), "(1,7)")
        self.assertEqual(one.say("ways c (5,6) 1"), "(2,6); (5,6) > (1,6)")
        self.assertEqual(one.say("ways d (5,6) 6"), "none")
        self.assertEqual(one.say("ways n (1,6) 0"), "none")

    def test_alike_and_within(self):
        one = desk("x = a=1", "y = a=1 + drop", "z = a=1 + a=2", "m = mark", "n = mark*")
        self.assertEqual(one.say("alike x y"), "yes")
        self.assertEqual(one.say("within x y"), "yes")
        self.assertEqual(one.say("within y x"), "yes")
        self.assertEqual(one.say("alike x z"), "no: (2,1): (2,1)")
        self.assertEqual(one.say("within x z"), "yes")
        self.assertEqual(one.say("within z x"), "no: (2,1): (2,1)")
        self.assertEqual(one.say("alike m n"), "no: (0,1): (0,1)")
        self.assertEqual(one.say("within m n"), "yes")
        self.assertEqual(one.say("within n m"), "no: (0,1): (0,1)")
        self.assertEqual(one.say("within m x"), "no: (0,1): (0,1) > (0,1)")
        self.assertEqual(one.say("alike n n"), "yes")

    def test_too_many_numbers_of_both(self):
        low, high = (" + ".join(f"a={number}" for number in some) for some in (range(5), range(5, 9)))
        one = desk("x = " + low, "y = " + high)
        for line in ("alike x y", "within x y", "within y x"):
            self.assertEqual(one.say(line), "error TooMany")
        self.assertEqual(one.say("alike x x"), "yes")

    def test_most(self):
        one = desk("p = pass", "m = mark; (mark + pass)", "l = mark*", "d = mark; drop", "e = (a=1; mark; a:=2)*",
                   "q = mark*; drop")
        answers = [one.say(f"most {name}") for name in "pmldeq"]
        self.assertEqual(answers, ["0", "2", "endless", "none", "1", "none"])

    def test_idle(self):
        one = desk("x = pass; mark", "y = a=1; mark", "z = (a=1 + drop); (pass; mark)", "p = pass",
                   "d = (mark; (a=1 + a=1))*")
        answers = [one.say(f"idle {name}") for name in "xyzpd"]
        self.assertEqual(answers, ["0", "none", "0.1 1.0", "none", "0.1.0 0.1.1"])
        one = desk("x = " + "; ".join(["a=1"] * 60))
        self.assertEqual(one.say("idle x"), " ".join(str(number) for number in range(60)))
        one = desk("x = " + "; ".join(["a=1"] * 61))
        self.assertEqual(one.say("idle x"), "error TooMany")

    def test_ten_and_more_in_a_path(self):
        one = desk("x = " + "; ".join(["mark"] * 6 + ["a:=1", "b:=1", "a=1", "b:=2", "a:=5", "(b=2 + b=3)"]))
        self.assertEqual(one.say("idle x"), "7 8 11 11.1")

    def test_random_programs(self):
        chance = random.Random(1004)
        counts = {"yes": 0, "no:": 0}
        for _ in range(80):
            one, programs = Desk(["b", "a"]), {}
            for name in ("x", "y"):
                tree = a_tree(chance, ["a", "b"], [0, 1, 10], chance.choice((2, 3, 4)))
                answer = one.say(f"let {name} = {tree_text(tree)}")
                try:
                    programs[name] = Program(["a", "b"], tree)
                    self.assertEqual(answer, "ok")
                except TooMany:
                    self.assertEqual(answer, "error TooMany")
            if len(programs) == 2:
                self.compare(one, programs, chance, counts)
        self.assertGreater(min(counts.values()), 15)

    def compare(self, one, programs, chance, counts):
        first, second = programs["x"], programs["y"]
        self.assertEqual(one.say("show x"), tree_text(first.tree))
        packet, many = (chance.choice((0, 1, 10, 12)), chance.choice((0, 1, 10, 12))), chance.randrange(4)
        wanted = "; ".join(shown(way) for way in ways(first, packet, many)) or "none"
        self.assertEqual(one.say(f"ways x {shown([packet])} {many}"), wanted)
        for line, found in (("alike x y", parting(first, second)), ("within x y", beyond(first, second))):
            wanted = "yes" if found is None else f"no: {shown([found[0]])}: {shown(found[1])}"
            counts[wanted.split()[0]] += 1
            self.assertEqual(one.say(line), wanted)
        most = most_marks(first, Program(["a", "b"], PASS))
        self.assertEqual(one.say("most x"), {None: "endless", -1: "none"}.get(most, str(most)))
        try:
            wanted = " ".join(".".join(str(index) for index in path) for path in idle_parts(first)) or "none"
        except WayError:
            wanted = "error TooMany"
        self.assertEqual(one.say("idle x"), wanted)


class Desks(unittest.TestCase):
    def test_no_fields(self):
        for thing in NO_FIELDS + odd_values():
            raised(BadFields, Desk, thing)

    def test_fields_are_copied(self):
        fields = ["b", "a"]
        one = Desk(fields)
        fields[0] = "c"
        self.assertEqual(one.say("let x = b=1"), "ok")
        self.assertEqual(one.say("let x = c=1"), "error BadTree")
        self.assertEqual(fields, ["c", "a"])

    def test_desks_are_apart(self):
        one, other = Desk(["a"]), Desk(["a"])
        one.say("let x = a=1")
        self.assertEqual((one.say("names"), other.say("names")), ("x", "none"))

    def test_equal_to_no_value_of_another_kind_and_not_iterated_over(self):
        one = desk("x = pass")
        for thing in odd_values() + ["x", ["x"], {"x": Program(["a", "b"], PASS)}]:
            self.assertFalse(one == thing)
            self.assertFalse(thing == one)
        for work in (iter, list, len, dict, sorted):
            with self.assertRaises(TypeError):
                work(one)

    def test_errors_change_nothing(self):
        one = desk("x = a=1", "y = mark")
        for line in ("let x = c=1", "let z = c=1", "show z", "ways x (1) 2", "ways x (1,2) 9", "most z", "idle z",
                     "alike x z", "unknown", None,
                     "let none = pass", "let x = pass pass"):
            answer = one.say(line)
            self.assertTrue(answer == "unknown" or answer.startswith("error "))
            self.assertEqual((one.say("names"), one.say("show x"), one.say("show y")), ("x y", "a=1", "mark"))
        self.assertEqual([one.say("undo") for _ in range(3)], ["ok", "ok", "error NothingLeft"])


class ByChance(unittest.TestCase):
    def test_lets_and_undos(self):
        chance = random.Random(1005)
        for _ in range(30):
            one, told = Desk(["a", "b"]), []
            for number in range(40):
                if chance.random() < 0.4:
                    self.assertEqual(one.say("undo"), "ok" if told else "error NothingLeft")
                    del told[-1:]
                else:
                    told.append((chance.choice("xyz"), f"a={number}"))
                    self.assertEqual(one.say(f"let {told[-1][0]} = {told[-1][1]}"), "ok")
                programs = dict(told)
                self.assertEqual(one.say("names"), " ".join(sorted(programs)) or "none")
                for name in "xyz":
                    self.assertEqual(one.say(f"show {name}"), programs.get(name, "error BadName"))


if __name__ == "__main__":
    unittest.main()
