import itertools
import random
import unittest

from markedways.errors import BadFields, BadPacket, BadProgram, BadTest, BadTests, OtherFields, TooMany
from markedways.meeting import dodging, keeps, meets
from markedways.packets import samples
from markedways.programs import Program
from markedways.ways import is_way, ways
from oracle import a_test, satisfied
from samplers import (DROP, MARK, PASS, a_packet, a_pair, at, choice, counter, loop, odometer, pair, put, row, solo,
                      take, trio, walk)
from test_packets import NO_FIELDS
from test_programs import raised
from test_trees import ONLY_TREES
from values import no_programs, odd_values

A1, A2, A3 = solo(at("a", 1)), solo(at("a", 2)), solo(at("a", 3))


def does_meet(fields, way, tests):
    """Point 60, word by word."""
    return any(all(satisfied(fields, test.tree, way[k]) for k, test in zip(chosen, tests))
               for chosen in itertools.combinations(range(len(way) - 1), len(tests)))


def some_tests(chance, fields):
    return [Program(fields, PASS if chance.random() < 0.2 else a_test(chance, list(fields), [0, 1, 3], 2))
            for _ in range(chance.choice((1, 1, 2, 3)))]


def some_ends(chance, fields):
    return [Program(fields, PASS if chance.random() < 0.6 else a_test(chance, list(fields), [0, 1, 3], 2))
            for _ in range(2)]


class Meets(unittest.TestCase):
    def told(self, numbers, *via):
        return meets(["a"], tuple((number,) for number in numbers), list(via))

    def test_the_marks_in_their_order(self):
        for numbers, via, wanted in (
                ((1, 5), [A1], True), ((5, 1), [A1], False), ((5, 1, 5), [A1], True), ((2, 1, 5), [A1, A2], False),
                ((1, 2, 5), [A1, A2], True), ((1, 5, 2, 5), [A1, A2], True), ((1, 2), [A1, A2], False),
                ((1, 2, 3, 5), [A1, A2, A3], True), ((1, 3, 2, 5), [A1, A2, A3], False),
                ((1, 3, 2, 3, 5), [A1, A2, A3], True), ((3, 2, 1, 5), [A1, A2, A3], False)):
            with self.subTest(numbers=numbers):
                self.assertIs(self.told(numbers, *via), wanted)

    def test_each_test_needs_a_mark_of_its_own(self):
        self.assertIs(self.told((1, 5), A1, A1), False)
        self.assertIs(self.told((1, 1, 5), A1, A1), True)
        self.assertIs(self.told((1, 5, 1, 5), A1, A1), True)
        self.assertIs(self.told((1, 1, 5), A1, A1, A1), False)
        both = solo(choice(at("a", 1), at("a", 2)))
        self.assertIs(self.told((1, 2, 5), both, A2), True)
        self.assertIs(self.told((2, 5), both, A2), False)
        self.assertIs(self.told((2, 1, 5), both, A2), False)

    def test_the_end_is_no_mark(self):
        self.assertIs(self.told((1,), A1), False)
        self.assertIs(self.told((1,), solo(PASS)), False)
        self.assertIs(self.told((1, 1), solo(PASS)), True)
        self.assertIs(self.told((1, 2), A2), False)

    def test_tests_that_all_or_no_packets_satisfy(self):
        self.assertIs(self.told((1, 2, 3, 5), *[solo(PASS)] * 3), True)
        self.assertIs(self.told((1, 2, 5), *[solo(PASS)] * 3), False)
        self.assertIs(self.told((1, 2, 5), solo(DROP)), False)
        self.assertIs(self.told((1, 2, 5), solo(PASS), solo(DROP)), False)

    def test_any_tuple_of_packets_and_via_as_a_list_or_a_tuple(self):
        way = ((10 ** 99, 0, 1), (3, 4, 5), (1, 1, 1))
        for fields in (["c", "a", "b"], ("a", "b", "c")):
            for kind in (list, tuple):
                self.assertIs(meets(fields, way, kind([trio(at("b", 0)), trio(at("c", 5))])), True)
                self.assertIs(meets(fields, way, kind([trio(at("c", 5)), trio(at("b", 0))])), False)
                self.assertIs(meets(fields, way, kind([trio(at("c", 1)), trio(at("c", 1))])), False)

    def test_as_the_words_say(self):
        chance = random.Random(601)
        counts = {True: 0, False: 0}
        for _ in range(1500):
            fields = ["a", "b", "c"][:chance.choice((1, 2, 3))]
            way = tuple(a_packet(chance, fields, [0, 1, 3, 7]) for _ in range(chance.randrange(1, 7)))
            tests = some_tests(chance, fields)
            wanted = does_meet(fields, way, tests)
            counts[wanted] += 1
            self.assertIs(meets(fields, way, tests), wanted)
        self.assertGreater(min(counts.values()), 300)

    def test_forty_packets(self):
        way = tuple((number,) for number in range(39)) + ((39,),)
        self.assertIs(meets(["a"], way, [solo(at("a", 37)), solo(at("a", 38))]), True)
        self.assertIs(meets(["a"], way, [solo(at("a", 38)), solo(at("a", 39))]), False)

    def test_no_fields(self):
        for thing in NO_FIELDS + odd_values():
            raised(BadFields, meets, thing, None, None)

    def test_no_ways(self):
        for thing in odd_values() + [
                (), [], [(1, 2)], ((1,),), ((1, 2, 3),), ((1, 2), (1,)), ((1, 2), [1, 2]), ((1, True),), ((1, -1),),
                ((1, 2), None), ((1, 2), (1, "2")), (1, 2), {(1, 2): (1, 2)}, "12", ((1, 2), ((1, 2),))]:
            with self.subTest(thing):
                error = raised(BadPacket, meets, ["a", "b"], thing, None)
                self.assertEqual(error.packet, thing)

    def test_no_lists_of_tests(self):
        for thing in odd_values():
            if not isinstance(thing, (list, tuple)) or not 1 <= len(thing) <= 3:
                with self.subTest(thing):
                    self.assertIsNone(raised(BadTests, meets, ["a"], ((1,),), thing).at)
        for thing in ([], (), [A1] * 4, (A1,) * 4, [None] * 4, {0: A1}, A1, "A", 1):
            self.assertIsNone(raised(BadTests, meets, ["a"], ((1,),), thing).at)
        self.assertIsNone(raised(BadTests, meets, ["a", "b"], ((1, 2),), [solo(PASS)] * 4).at)

    def test_items_that_are_no_tests(self):
        others = [Program(["b"], PASS), pair(PASS)]
        for thing in no_programs() + others + [solo(tree) for tree in (MARK, put("a", 1), loop(PASS))]:
            with self.subTest(thing):
                self.assertEqual(raised(BadTests, meets, ["a"], ((1,),), [thing]).at, 0)
                self.assertEqual(raised(BadTests, meets, ["a"], ((1,),), (thing, None)).at, 0)
                self.assertEqual(raised(BadTests, meets, ["a"], ((1,),), [A1, thing, thing]).at, 1)
                self.assertEqual(raised(BadTests, meets, ["a"], ((1,),), [A1, A1, thing]).at, 2)

    def test_too_many_numbers_behind_all_other_errors(self):
        via = [solo(choice(*[at("a", 3 * k + number) for number in range(3)])) for k in range(3)]
        error = raised(TooMany, meets, ["a"], ((1,),), via)
        self.assertEqual((error.what, error.most), ("numbers", 8))
        raised(BadTests, meets, ["a"], ((1,),), via[:2] + [None])
        raised(BadPacket, meets, ["a"], (1,), via)
        self.assertIs(meets(["a"], ((1,),), [via[0], via[1], solo(choice(at("a", 6), at("a", 7)))]), False)
        self.assertIs(meets(["a"], ((1,), (10 ** 12,)), via[:1]), True)


class Keeps(unittest.TestCase):
    def kept(self, program, via, source=PASS, goal=PASS):
        source, goal = Program(program.fields, source), Program(program.fields, goal)
        via = [Program(program.fields, test) for test in via]
        found = dodging(program, source, goal, via)
        self.assertIs(keeps(program, source, goal, via), found is None)
        return found

    def test_a_filter_on_each_way(self):
        program = solo(row(choice(put("a", 1), put("a", 2)), MARK, put("a", 3)))
        self.assertIsNone(self.kept(program, [choice(at("a", 1), at("a", 2))]))
        self.assertEqual(self.kept(program, [at("a", 1)]), ((0,), ((2,), (3,))))
        self.assertIsNone(self.kept(program, [PASS]))
        self.assertEqual(self.kept(program, [PASS, PASS]), ((0,), ((1,), (3,))))

    def test_a_filter_that_is_met_at_the_end_alone_is_not_met(self):
        program = solo(row(put("a", 1), MARK, put("a", 2)))
        self.assertEqual(self.kept(program, [at("a", 2)]), ((0,), ((1,), (2,))))
        self.assertIsNone(self.kept(program, [at("a", 1)]))
        self.assertEqual(self.kept(solo(put("a", 1)), [at("a", 1)]), ((0,), ((1,),)))

    def test_a_way_around_a_filter(self):
        through = row(put("a", 1), MARK, put("a", 2), MARK, put("a", 5))
        around = row(put("a", 4), MARK, MARK, MARK, put("a", 5))
        self.assertIsNone(self.kept(solo(through), [at("a", 1), at("a", 2)]))
        self.assertEqual(self.kept(solo(choice(through, around)), [at("a", 1)]), ((0,), ((4,), (4,), (4,), (5,))))
        self.assertIsNone(self.kept(solo(choice(through, row(at("a", 9), around))), [at("a", 1)], ("not", at("a", 9))))
        self.assertEqual(self.kept(solo(choice(through, row(at("a", 9), around))), [at("a", 1)])[0], (9,))

    def test_two_filters_in_their_order_and_in_the_other_one(self):
        program = solo(row(put("a", 1), MARK, put("a", 2), MARK))
        self.assertIsNone(self.kept(program, [at("a", 1), at("a", 2)]))
        self.assertEqual(self.kept(program, [at("a", 2), at("a", 1)]), ((0,), ((1,), (2,), (2,))))
        either = choice(at("a", 1), at("a", 2))
        self.assertIsNone(self.kept(program, [either, either]))
        self.assertEqual(self.kept(program, [at("a", 2), either]), ((0,), ((1,), (2,), (2,))))

    def test_goals(self):
        program = solo(row(choice(put("a", 1), put("a", 2)), MARK))
        self.assertIsNone(self.kept(program, [at("a", 1)], goal=at("a", 1)))
        self.assertEqual(self.kept(program, [at("a", 1)], goal=at("a", 2)), ((0,), ((2,), (2,))))
        self.assertIsNone(self.kept(program, [DROP], goal=at("a", 3)))
        self.assertIsNone(self.kept(program, [DROP], goal=DROP))
        self.assertIsNone(self.kept(program, [DROP], source=DROP))
        self.assertIsNone(self.kept(solo(DROP), [DROP]))

    def test_loops(self):
        program = solo(loop(choice(row(at("a", 0), MARK, put("a", 1)), row(at("a", 1), MARK, put("a", 2)),
                                   row(at("a", 2), MARK, put("a", 3)))))
        self.assertIsNone(self.kept(program, [at("a", 0), at("a", 1), at("a", 2)], at("a", 0), at("a", 3)))
        self.assertEqual(self.kept(program, [at("a", 1)], at("a", 0), ("not", at("a", 1))), ((0,), ((0,),)))
        self.assertEqual(self.kept(program, [at("a", 2)], at("a", 0), ("not", at("a", 0))), ((0,), ((0,), (1,))))
        self.assertEqual(self.kept(program, [at("a", 0)], PASS, at("a", 3)), ((3,), ((3,),)))
        self.assertEqual(self.kept(program, [at("a", 0)], ("not", at("a", 3)), at("a", 3)), ((2,), ((2,), (3,))))
        self.assertEqual(self.kept(walk(), [at("at", 1)], at("at", 1), at("at", 2)), None)

    def test_hundreds_of_marks(self):
        last = row(*[at(field, 8) for field in "abc"])
        self.assertIsNone(self.kept(odometer(8), [at("c", 3), at("b", 5), last]))
        packet, way = self.kept(odometer(8), [last, at("c", 3)])
        self.assertEqual((packet, len(way)), ((0, 1, 1), 512))
        self.assertIsNone(self.kept(counter(8), [at("a", 3), at("a", 7), at("a", 8)]))

    def test_fewest_marks_then_the_least_packet_then_the_least_way(self):
        program = pair(choice(row(at("a", 0), MARK, MARK), row(at("a", 5), MARK, put("b", 4)),
                              row(at("a", 4), MARK, choice(put("b", 7), put("b", 6)))))
        self.assertEqual(self.kept(program, [DROP]), ((4, 0), ((4, 0), (4, 6))))
        self.assertEqual(self.kept(program, [DROP], goal=at("b", 7)), ((4, 0), ((4, 0), (4, 7))))
        self.assertEqual(self.kept(program, [at("b", 4)], source=("not", at("a", 4))), ((5, 0), ((5, 0), (5, 4))))

    def test_samples_of_all_numbers_that_are_named(self):
        for k in range(4):
            trees = [PASS, PASS, PASS, [DROP]]
            named = choice(PASS, at("a", 0), at("b", 1))
            trees[k] = [row(DROP, named)] if k == 3 else named
            self.assertEqual(self.kept(pair(trees[0]), trees[3], trees[1], trees[2]), ((0, 0), ((0, 0),)))
        self.assertEqual(self.kept(pair(("not", at("a", 0))), [DROP], ("not", at("b", 0)), ("not", at("a", 1))),
                         ((2, 1), ((2, 1),)))

    def test_against_all_ways(self):
        chance = random.Random(602)
        counts = {}
        for _ in range(400):
            program, _ = a_pair(chance)
            source, goal = some_ends(chance, program.fields)
            via = some_tests(chance, program.fields)
            found = dodging(program, source, goal, via)
            self.assertIs(keeps(program, source, goal, via), found is None)
            many = 2 if found is None else len(found[1]) - 1
            counts[many, found is None] = counts.get((many, found is None), 0) + 1
            if many <= 3:
                self.assertEqual(found, self.first_of_all(program, source, goal, via, many), program.tree)
            if found is not None:
                self.assertTrue(is_way(program, *found) and not meets(program.fields, found[1], via))
        self.assertGreater(counts[1, False], 15)
        self.assertGreater(counts[2, True], 60)

    def first_of_all(self, program, source, goal, via, most):
        numbers = sorted({number for one in (program, source, goal, *via) for number in one.numbers})
        found = [(len(way), packet, way) for packet in samples(program.fields, numbers) if source.holds(packet)
                 for way in ways(program, packet, most)
                 if goal.holds(way[-1]) and not does_meet(program.fields, way, via)]
        return min(found)[1:] if found else None

    def test_via_as_a_tuple(self):
        program = solo(row(put("a", 1), MARK))
        self.assertIs(keeps(program, solo(PASS), solo(PASS), (A1,)), True)
        self.assertEqual(dodging(program, solo(PASS), solo(PASS), (A1, A2)), ((0,), ((1,), (1,))))


class WrongArguments(unittest.TestCase):
    def test_in_their_order(self):
        program = walk()
        fine = Program(["at", "tag"], PASS)
        other = solo(PASS)
        for work in (keeps, dodging):
            for thing in no_programs():
                self.assertEqual(raised(BadProgram, work, thing, None, None, None).part, "program")
                self.assertEqual(raised(BadTest, work, program, thing, None, None).part, "source")
                self.assertEqual(raised(BadTest, work, program, fine, thing, None).part, "goal")
                self.assertEqual(raised(BadTests, work, program, fine, fine, [fine, thing]).at, 1)
            raised(OtherFields, work, program, other, None, None)
            raised(OtherFields, work, program, fine, other, None)
            self.assertEqual(raised(BadTests, work, program, fine, fine, [fine, other]).at, 1)
            for thing in ([], (), None, [fine] * 4, fine, {0: fine}):
                self.assertIsNone(raised(BadTests, work, program, fine, fine, thing).at)
            for tree in ONLY_TREES:
                no_test = Program(["a", "b"] + [name for name in ("set", "take") if name in tree[1:]], tree)
                self.assertEqual(raised(BadTest, work, pair(PASS), no_test, None, None).part, "source")
                self.assertEqual(raised(BadTest, work, pair(PASS), pair(PASS), no_test, None).part, "goal")
                self.assertEqual(raised(BadTests, work, pair(PASS), pair(PASS), pair(PASS), [no_test]).at, 0)

    def test_too_many_numbers_of_all_together(self):
        def named(*numbers):
            return solo(choice(PASS, PASS, *[at("a", number) for number in numbers]))
        for work in (keeps, dodging):
            for things in ([named(0, 1, 2), named(3, 4), named(5, 6), [named(7), named(8)]],
                           [named(8), named(*range(8)), named(), [named()]],
                           [named(), named(8), named(*range(8)), [named()]],
                           [named(), named(), named(8), [named(*range(4)), named(*range(4, 8))]]):
                error = raised(TooMany, work, *things)
                self.assertEqual((error.what, error.most), ("numbers", 8))
                raised(BadTests, work, *things[:3], [*things[3], None])
                raised(BadTests, work, *things[:3], None)
            work(named(0, 1, 2), named(3, 4), named(5, 6), [named(7), named(0, 7)])

    def test_copies_of_numbers(self):
        program = pair(row(take("a", "b"), MARK, put("b", 1)))
        source, goal = pair(("not", at("b", 3))), pair(PASS)
        self.assertEqual(dodging(program, source, goal, [pair(at("a", 3))]), ((0, 1), ((1, 1), (1, 1))))
        self.assertTrue(keeps(program, pair(at("b", 3)), goal, [pair(at("a", 3))]))


if __name__ == "__main__":
    unittest.main()
