import random
import unittest

from markedways.errors import BadProgram, BadWord, OtherFields, TooMany
from markedways.likeness import alike, is_table, table, within
from markedways.packets import samples
from markedways.programs import Program
from oracle import Walker, keeps_the_rules
from samplers import (DROP, MARK, PASS, a_packet, a_pair, at, choice, loop, odometer, pair, put, row, six_marks, solo,
                      walk)
from test_programs import raised
from values import no_programs, odd_values

BOTH = ("alike", "within")
START = ((0,), (0,))


def reordered(tree):
    """The tree with the trees of its choices in the other order."""
    if tree[0] not in ("row", "choice", "loop"):
        return tree
    parts = [reordered(part) for part in tree[1:]]
    return (tree[0], *(reversed(parts) if tree[0] == "choice" else parts))


class Least(unittest.TestCase):
    def test_without_marks_it_has_the_samples_alone(self):
        for word in BOTH:
            self.assertEqual(table(solo(PASS), solo(PASS), word), [((0,), *START)])
            self.assertEqual(table(solo(at("a", 3)), solo(at("a", 3)), word), [((0,), *START), ((3,), *START)])
            self.assertEqual(table(pair(DROP), pair(row(at("b", 2), DROP)), word),
                             [((0, 1), *START), ((0, 2), *START), ((2, 1), *START), ((2, 2), *START)])

    def test_with_a_mark(self):
        one, other = solo(row(put("a", 5), MARK)), solo(row(MARK, put("a", 5)))
        self.assertEqual(table(one, one, "alike"), [((0,), *START), ((5,), *START), ((5,), (1,), (1,))])
        self.assertIsNone(table(one, other, "alike"))

    def test_places_of_both_together(self):
        one, other = solo(choice(MARK, row(MARK, PASS))), solo(choice(row(PASS, MARK), DROP, MARK, MARK))
        self.assertEqual(table(one, other, "alike"), [((0,), *START), ((0,), (1, 2), (1, 2, 3))])
        self.assertEqual(table(other, one, "within"), [((0,), *START), ((0,), (1, 2, 3), (1, 2))])

    def test_within_needs_no_triples_of_the_other_program_alone(self):
        self.assertEqual(table(solo(PASS), solo(loop(MARK)), "within"), [((0,), *START)])
        self.assertEqual(table(solo(DROP), solo(row(put("a", 1), MARK)), "within"), [((0,), *START), ((1,), *START)])
        one = solo(choice(PASS, row(at("a", 1), MARK)))
        self.assertEqual(table(one, solo(loop(MARK)), "within"), [((0,), *START), ((1,), *START), ((1,), (1,), (1,))])

    def test_dead_marks_need_no_triples(self):
        one, other = solo(choice(PASS, row(MARK, DROP))), solo(choice(row(MARK, MARK, at("a", 1), at("a", 2)), PASS))
        found = [((0,), *START), ((1,), *START), ((2,), *START)]
        for word in BOTH:
            self.assertEqual(table(one, other, word), found)
            self.assertIs(is_table(one, other, word, found), True)

    def test_packets_that_are_no_samples(self):
        one = pair(row(("take", "b", "a"), MARK))
        self.assertEqual(table(one, one, "alike"), [((0, 0), (1,), (1,)), ((0, 1), *START)])

    def test_the_first_program_of_the_document(self):
        one = walk()
        found = table(one, Program(["at", "tag"], reordered(one.tree)), "alike")
        self.assertEqual(len(found), 9 + 6)
        self.assertEqual(found[:2], [((0, 1), *START), ((0, 2), *START)])
        self.assertIn(((1, 2), (1,), (2,)), found)

    def test_none_exactly_if_they_are_not(self):
        chance = random.Random(41)
        for _ in range(100):
            one, other = a_pair(chance)
            self.assertIs(table(one, other, "alike") is not None, alike(one, other))
            self.assertIs(table(one, other, "within") is not None, within(one, other))

    def test_without_any_triple_it_is_none(self):
        chance = random.Random(42)
        done = 0
        while done < 60:
            one, other = a_pair(chance, 6)
            for word in BOTH:
                found = table(one, other, word)
                if found is not None and len(found) > 3:
                    done += 1
                    self.assertEqual(found, sorted(set(found)))
                    for triple in found if len(found) < 12 else chance.sample(found, 12):
                        fewer = [other_one for other_one in found if other_one != triple]
                        self.assertIs(is_table(one, other, word, fewer), False)
                        self.assertFalse(keeps_the_rules(one, other, word, fewer))

    def test_big_ones(self):
        one = odometer(8)
        found = table(one, Program(one.fields, reordered(one.tree)), "alike")
        self.assertEqual(len(found), 729 + 511)
        self.assertIs(is_table(one, Program(one.fields, reordered(one.tree)), "alike", found), True)
        found[-1] = (found[-1][0], (), ())
        self.assertIs(is_table(one, Program(one.fields, reordered(one.tree)), "alike", found), False)

    def test_a_new_list_each_time(self):
        one = walk()
        table(one, one, "alike").clear()
        self.assertEqual(len(table(one, one, "alike")), 15)


class Judged(unittest.TestCase):
    def setUp(self):
        self.one = six_marks()
        self.other = pair(reordered(self.one.tree))
        self.found = table(self.one, self.other, "alike")

    def judge(self, thing, word="alike"):
        answer = is_table(self.one, self.other, word, thing)
        self.assertIsInstance(answer, bool)
        return answer

    def test_what_table_returns_in_any_order_as_a_list_or_a_tuple(self):
        chance = random.Random(43)
        self.assertGreater(len(self.found), 30)
        for word in BOTH:
            found = table(self.one, self.other, word)
            self.assertTrue(self.judge(found, word))
            self.assertTrue(self.judge(tuple(found), word))
            for _ in range(5):
                chance.shuffle(found)
                self.assertTrue(self.judge(found, word))
                self.assertTrue(self.judge(tuple(found), word))

    def test_doubles(self):
        for triple in self.found[::7]:
            self.assertFalse(self.judge(self.found + [triple]))
            self.assertFalse(self.judge((*self.found, triple)))

    def test_lists_in_the_place_of_tuples(self):
        packet, places, others = self.found[-1]
        rest = self.found[:-1]
        self.assertTrue(self.judge(rest + [(packet, places, others)]))
        for triple in ([packet, places, others], (list(packet), places, others), (packet, list(places), others),
                       (packet, places, list(others)), {0: packet}, (packet, (list(places),), others)):
            self.assertFalse(self.judge(rest + [triple]), triple)

    def test_true_and_false_in_the_place_of_numbers(self):
        one = solo(loop(MARK))
        found = [((0,), *START), ((0,), (1,), (1,))]
        self.assertIs(is_table(one, one, "alike", found), True)
        for triple in (((0,), (True,), (1,)), ((0,), (1,), (True,)), ((False,), (1,), (1,))):
            self.assertIs(is_table(one, one, "alike", found[:1] + [triple]), False)
            self.assertIs(is_table(one, one, "alike", found + [triple]), False)
        for triple in (((0,), (False,), (0,)), ((0,), (0,), (False,)), ((False,), (0,), (0,))):
            self.assertIs(is_table(one, one, "alike", [triple] + found[1:]), False)

    def test_places_out_of_order_doubled_or_none(self):
        one = solo(choice(MARK, MARK))
        self.assertIs(is_table(one, one, "alike", [((0,), *START), ((0,), (1, 2), (1, 2))]), True)
        self.assertIs(is_table(one, one, "alike", [((0,), *START), ((0,), (1, 2), (1, 2)), ((0,), (1,), (2,))]), True)
        for places in ((2, 1), (1, 1, 2), (1, 2, 2), (1, 2, 3), (-1, 1, 2), (1, 2, 10 ** 99), (1, "2"), (1, None), None,
                       1, "12", (1, (2,)), {1: 2}):
            for triple in (((0,), places, (1, 2)), ((0,), (1, 2), places)):
                self.assertIs(is_table(one, one, "alike", [((0,), *START), ((0,), (1, 2), (1, 2)), triple]), False)
                self.assertIs(is_table(one, one, "alike", [((0,), *START), triple]), False)

    def test_more_triples_that_keep_the_rules(self):
        one = solo(row(at("a", 3), MARK, put("a", 4), MARK))
        least = table(one, one, "alike")
        self.assertEqual(least, [((0,), *START), ((3,), *START), ((3,), (1,), (1,)), ((4,), *START),
                                 ((4,), (2,), (2,))])
        for more in ([((0,), (), ())], [((10 ** 90,), (), ()), ((9,), (2,), (2,))], [((5,), (1,), (1,))],
                     [((5,), (0, 1), (1,)), ((7,), (0, 1, 2), (0, 1, 2))], [((4,), (1, 2), (1, 2))],
                     [((99,), *START), ((98,), *START)]):
            self.assertIs(is_table(one, one, "alike", more + least), True, more)
            self.assertIs(is_table(one, one, "within", least + more), True, more)
        for more in ([((0,), (2,), ())], [((0,), (1,), ())], [((5,), (1,), (0, 2))], [((4,), (1, 2), (1,))],
                     [((3,), (0,), ())], [((3,), (1,), (0, 1))]):
            self.assertIs(is_table(one, one, "alike", more + least), False, more)
        for triple, is_kept in ((((0,), (), (2,)), True), (((5,), (), (1,)), True), (((4,), (1,), (1, 2)), True),
                                (((4,), (1, 2), (1,)), False), (((3,), (0,), (0, 1)), True),
                                (((3,), (0, 1), (0,)), False), (((3,), (0, 1), (0, 1)), True)):
            self.assertIs(is_table(one, one, "within", least + [triple]), is_kept, triple)
            self.assertIs(is_table(one, one, "alike", least + [triple]), triple[1] == triple[2], triple)

    def test_the_samples_must_be_there(self):
        for packet in samples(["a", "b"], self.one.numbers):
            self.assertFalse(self.judge([triple for triple in self.found if triple != (packet, *START)]))
        self.assertFalse(self.judge([]))
        self.assertFalse(self.judge(()))
        self.assertIs(is_table(pair(DROP), pair(DROP), "alike", []), False)
        self.assertIs(is_table(pair(DROP), pair(at("a", 1)), "within", [((0, 1), *START)]), False)

    def test_with_changes(self):
        chance = random.Random(44)
        counts = {True: 0, False: 0}
        for _ in range(120):
            one, other = a_pair(chance)
            for word in BOTH:
                found = table(one, other, word)
                if found is not None:
                    for _ in range(chance.choice((1, 2))):
                        self.change(chance, one, other, found)
                    answer = is_table(one, other, word, found)
                    self.assertIs(answer, keeps_the_rules(one, other, word, found), (one.tree, other.tree, word, found))
                    counts[answer] += 1
        self.assertGreater(min(counts.values()), 30)

    def change(self, chance, one, other, found):
        at = chance.randrange(len(found))
        packet, places, others = found[at]
        if chance.random() < 0.5:
            packet = a_packet(chance, one.fields, [0, 1, 2, 5, 9, 77])
        places = self.some_places(chance, one, places)
        others = self.some_places(chance, other, others)
        found[at:at + chance.choice((0, 1))] = [(packet, places, others)]

    def some_places(self, chance, program, places):
        if chance.random() < 0.5:
            return places
        return tuple(sorted(chance.sample(range(program.marks + 1), chance.randint(0, program.marks + 1))))

    def test_closed_under_more_triples(self):
        chance = random.Random(45)
        counts = {True: 0, False: 0}
        for _ in range(150):
            one, other = a_pair(chance)
            for word in BOTH:
                found = table(one, other, word)
                if found is not None:
                    packet = a_packet(chance, one.fields, [0, 1, 5, 77, 10 ** 20])
                    triple = packet, self.some_places(chance, one, (0,)), self.some_places(chance, other, (0,))
                    told = self.closed(one, other, word, found, triple)
                    answer = is_table(one, other, word, told)
                    self.assertIs(answer, keeps_the_rules(one, other, word, told), (one.tree, other.tree, word, told))
                    counts[answer] += 1
        self.assertGreater(min(counts.values()), 20)

    def closed(self, one, other, word, found, triple):
        """What was found, the triple, and those that it requires, whether the ends keep the rules or not."""
        first, second = Walker(one), Walker(other)
        told, waiting = dict.fromkeys(found), [triple]
        while waiting:
            triple = waiting.pop()
            if triple not in told:
                told[triple] = None
                steps = [pair for place in triple[1] for pair in first.steps(place, triple[0])]
                more = [pair for place in triple[2] for pair in second.steps(place, triple[0])]
                for packet in {pair[1] for pair in steps + more}:
                    here = tuple(sorted({place for place, now in steps if now == packet}))
                    if here or word == "alike":
                        waiting.append((packet, here, tuple(sorted({place for place, now in more if now == packet}))))
        return list(told)

    def test_programs_that_are_not(self):
        one, other = solo(MARK), solo(loop(MARK))
        for thing in ([((0,), *START), ((0,), (1,), (1,))], [((0,), *START)], [((0,), (0,), (0, 1))]):
            self.assertIs(is_table(one, other, "alike", thing), False)
            self.assertIs(is_table(other, one, "within", thing), False)

    def test_values_of_other_kinds(self):
        for thing in odd_values() + [self.one, {0: self.found}, (self.found,), [self.found], str(self.found),
                                     dict.fromkeys(self.found), [[self.found[0]]]]:
            self.assertFalse(self.judge(thing))
            for word in BOTH:
                self.assertFalse(self.judge(self.found + [thing], word))
                self.assertFalse(self.judge(self.found + [((0, 0), (0,), thing)], word))
                self.assertFalse(self.judge(self.found + [((0, 0), thing, (0,))], word))
                self.assertFalse(self.judge(self.found + [(thing, (0,), (0,))], word))
        for thing in ((), ((0, 0),), ((0, 0), (0,)), ((0, 0), (0,), (0,), (0,)), ((0,), (0,), (0,)),
                      ((0, -1), (0,), (0,)), ((0, 0, 0), (0,), (0,)), ((), (0,), (0,))):
            self.assertFalse(self.judge(self.found + [thing]))

    def test_what_is_passed_stays(self):
        told = [((0,), *START), ((0,), (1,), (1,))]
        is_table(solo(loop(MARK)), solo(loop(MARK)), "alike", told)
        self.assertEqual(told, [((0,), *START), ((0,), (1,), (1,))])


class Words(unittest.TestCase):
    NO_WORDS = ["", "Alike", "alike ", "with", "likeness", None, True, 0, 1, [], ["alike"], ("alike",), {},
                {"alike": 1}, "withi", "alike\n"]

    def test_no_words(self):
        one = solo(PASS)
        for word in self.NO_WORDS + odd_values():
            for error in (raised(BadWord, table, one, one, word), raised(BadWord, is_table, one, one, word, None)):
                self.assertEqual(error.word, word)
                self.assertIs(error.word.__class__, word.__class__)

    def test_the_errors_of_the_programs_come_first_but_for_that_of_too_many_numbers(self):
        many, more = solo(choice(*[at("a", number) for number in range(8)])), solo(at("a", 8))
        for work, rest in ((table, ()), (is_table, (None,))):
            for thing in no_programs():
                self.assertEqual(raised(BadProgram, work, thing, thing, None, *rest).part, "one")
                self.assertEqual(raised(BadProgram, work, pair(PASS), thing, None, *rest).part, "other")
            raised(OtherFields, work, solo(PASS), pair(PASS), None, *rest)
            self.assertIs(raised(BadWord, work, many, more, None, *rest).word, None)
            for word in BOTH:
                error = raised(TooMany, work, many, more, word, *rest)
                self.assertEqual((error.what, error.most), ("numbers", 8))


if __name__ == "__main__":
    unittest.main()
