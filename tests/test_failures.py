import itertools
import random
import unittest

from markedways.errors import BadMost, BadNet, BadTest, BadTests, OtherFields, TooMany
from markedways.failures import passing_by, stranding
from markedways.meeting import dodging, meets
from markedways.nets import Net
from markedways.packets import samples
from markedways.programs import Program
from net_oracle import a_linked_net, a_plain_net, greatest_net
from oracle import satisfied
from samplers import DROP, PASS, at, choice, pair, row, solo
from test_meeting import does_meet, some_ends, some_tests
from test_programs import raised
from test_trees import ONLY_TREES
from values import no_programs, odd_values

FIELDS = ["at", "to"]


def of_net(tree):
    return Program(FIELDS, tree)


def go(number):
    return ((("set", "at", number),),)


def ring_net(*links, groups=True):
    """The net of the document, with any links."""
    rules = (go(2), go(3)) if groups else (go(2),)
    tables = {1: [(PASS, rules)], 2: [(PASS, (go(3),))], 3: []}
    return Net(FIELDS, "at", tables, links or [(1, 2), (1, 3), (2, 3)])


def numbers_of(one, tests):
    """All numbers that are named, or switches."""
    return sorted(set(one.switches) | {number for test in tests for number in test.numbers}
                  | {tree[2] for switch in one.switches for rule in one[switch] for tree in flat(rule)})


def flat(rule):
    """The trees of a rule that may name a number, with three items each."""
    def inner(tree):
        if tree[0] in ("row", "choice", "not"):
            return [found for part in tree[1:] for found in inner(part)]
        return [tree] if tree[0] == "is" else []
    return inner(rule[0]) + [step for group in rule[1] for action in group for step in action if step[0] == "set"]


class Stranding(unittest.TestCase):
    def test_the_example_of_the_document(self):
        start, goal = of_net(at("at", 1)), of_net(at("at", 3))
        self.assertEqual(stranding(ring_net(), start, goal, 2), (((2, 3),), (1, 1)))

    def test_bounds(self):
        start, goal = of_net(at("at", 1)), of_net(at("at", 3))
        self.assertIsNone(stranding(ring_net(), start, goal, 0))
        for most in (1, 2, 3):
            self.assertEqual(stranding(ring_net(), start, goal, most), (((2, 3),), (1, 1)))
        # By rules that take whatever link is there, two links must fail.
        either = Net(FIELDS, "at", {1: [(PASS, (go(2), go(3)))], 2: [(PASS, (go(4),))], 3: [(PASS, (go(4),))], 4: []},
                     [(1, 2), (1, 3), (2, 4), (3, 4)])
        goal = of_net(at("at", 4))
        self.assertEqual(stranding(either, start, goal, 1), (((2, 4),), (1, 1)))
        both = Net(FIELDS, "at",
                   {1: [(PASS, ((go(2)[0], go(3)[0]),))], 2: [(PASS, (go(4),))], 3: [(PASS, (go(4),))], 4: []},
                   [(1, 2), (1, 3), (2, 4), (3, 4)])
        self.assertIsNone(stranding(both, start, goal, 1))
        for most in (2, 3):
            self.assertEqual(stranding(both, start, goal, most), (((1, 2), (1, 3)), (1, 1)))

    def test_three_links(self):
        rules = [(PASS, ((go(2)[0], go(3)[0]), go(4)))]
        one = Net(FIELDS, "at", {1: rules, 2: [], 3: [], 4: []}, [(1, 2), (1, 3), (1, 4)])
        start, goal = of_net(at("at", 1)), of_net(("not", at("at", 1)))
        for most in (0, 1, 2):
            self.assertIsNone(stranding(one, start, goal, most))
        self.assertEqual(stranding(one, start, goal, 3), (((1, 2), (1, 3), (1, 4)), (1, 1)))

    def test_a_packet_with_no_ride_at_all(self):
        for most in range(4):
            self.assertEqual(stranding(ring_net(), of_net(PASS), of_net(at("at", 3)), most), ((), (0, 1)))
            self.assertEqual(stranding(ring_net(), of_net(PASS), of_net(DROP), most), ((), (0, 1)))
            self.assertEqual(stranding(ring_net((2, 1)), of_net(at("at", 2)), of_net(at("at", 3)), most), ((), (2, 1)))

    def test_rides_of_no_hop_are_rides(self):
        for source, goal in ((at("at", 3), at("at", 3)), (PASS, PASS), (DROP, DROP), (at("to", 7), PASS)):
            self.assertIsNone(stranding(ring_net(), of_net(source), of_net(goal), 3))

    def test_the_least_sample_of_all_numbers(self):
        one = Net(["a", "at"], "at", {1: [(("not", at("a", 5)), (go(2),))], 2: []}, [(1, 2)])
        start, goal = Program(["a", "at"], at("at", 1)), Program(["a", "at"], at("at", 2))
        self.assertEqual(stranding(one, start, goal, 3), ((), (5, 1)))
        start = Program(["a", "at"], row(at("at", 1), ("not", at("a", 5))))
        self.assertEqual(stranding(one, start, goal, 3), (((1, 2),), (0, 1)))
        start = Program(["a", "at"], row(at("at", 1), ("not", at("a", 5)), ("not", at("a", 0))))
        self.assertEqual(stranding(one, start, goal, 3), (((1, 2),), (1, 1)))
        goal = Program(["a", "at"], row(at("at", 2), ("not", at("a", 2)), ("not", at("a", 1))))
        self.assertEqual(stranding(one, start, goal, 3), ((), (1, 1)))
        goal = Program(["a", "at"], choice(at("at", 2), at("a", 1)))
        self.assertEqual(stranding(one, start, goal, 3), (((1, 2),), (2, 1)))

    def test_lots_by_length_then_ascending(self):
        rules = {1: [(PASS, (go(2),))], 2: [(PASS, (go(3),))], 3: [(PASS, (go(1),))]}
        one = Net(FIELDS, "at", rules, [(3, 1), (2, 3), (1, 2)])
        self.assertEqual(stranding(one, of_net(at("at", 1)), of_net(at("at", 3)), 3), (((1, 2),), (1, 1)))
        self.assertEqual(stranding(one, of_net(at("at", 2)), of_net(at("at", 3)), 3), (((2, 3),), (2, 1)))
        self.assertEqual(stranding(one, of_net(at("at", 3)), of_net(at("at", 1)), 3), (((3, 1),), (3, 1)))

    def test_a_failing_link_can_also_help(self):
        # While the first link is there, the packet never comes to 3.
        one = Net(FIELDS, "at", {1: [(PASS, (go(2), go(3)))], 2: [], 3: []}, [(1, 2), (1, 3)])
        self.assertEqual(stranding(one, of_net(at("at", 1)), of_net(at("at", 3)), 3), ((), (1, 1)))
        self.assertIsNone(stranding(one.without(((1, 2),)), of_net(at("at", 1)), of_net(at("at", 3)), 0))

    def test_as_the_words_say(self):
        chance = random.Random(906)
        counts = {}
        for _ in range(900):
            plain = chance.choice((a_plain_net(chance, 2), a_linked_net(chance), a_linked_net(chance)))
            source, goal = some_ends(chance, plain.names)
            if chance.random() < 0.8:
                source, goal = [Program(plain.names, at("at", chance.choice(list(plain.tables)))) for _ in range(2)]
            one = plain.net()
            if len(numbers_of(one, [source, goal])) <= 8:
                most = chance.choice((0, 1, 2, 3, 3, 3))
                found = stranding(one, source, goal, most)
                self.assertEqual(found, self.first_of_all(plain, source, goal, most))
                key = None if found is None else len(found[0])
                counts[key] = counts.get(key, 0) + 1
        self.assertGreater(counts[1], 20)
        self.assertGreater(counts[2], 5)
        self.assertGreater(counts[None], 20)

    def first_of_all(self, plain, source, goal, most):
        found = samples(plain.names, numbers_of(plain.net(), [source, goal]))
        starts = [packet for packet in found if satisfied(plain.names, source.tree, packet)]
        for lot in plain.lots(most):
            rest = plain.failing(lot)
            for packet in starts:
                if not any(satisfied(plain.names, goal.tree, end) for end in rest.reached(packet)):
                    return (lot, packet)
        return None


class PassingBy(unittest.TestCase):
    def test_a_filter_that_a_failing_link_opens(self):
        start, goal, filters = of_net(at("at", 1)), of_net(at("at", 3)), [of_net(at("at", 2))]
        self.assertIsNone(passing_by(ring_net(), start, goal, filters, 0))
        wanted = (((1, 2),), (1, 1), ((3, 1), (3, 1)))
        for most in (1, 2, 3):
            self.assertEqual(passing_by(ring_net(), start, goal, filters, most), wanted)
            self.assertEqual(passing_by(ring_net(), start, goal, tuple(filters), most), wanted)
        self.assertIsNone(passing_by(ring_net(groups=False), start, goal, filters, 3))

    def test_without_a_failing_link(self):
        start, goal = of_net(at("at", 1)), of_net(at("at", 3))
        for most in range(4):
            self.assertEqual(passing_by(ring_net(), start, goal, [of_net(at("to", 5))], most),
                             ((), (1, 1), ((2, 1), (3, 1), (3, 1))))
            self.assertEqual(passing_by(ring_net(), start, of_net(PASS), [of_net(at("at", 2))], most),
                             ((), (1, 1), ((1, 1),)))
            self.assertEqual(passing_by(ring_net(), start, of_net(at("at", 2)), [of_net(at("at", 2))] * 2, most),
                             ((), (1, 1), ((2, 1), (2, 1))))

    def test_several_tests_in_their_order(self):
        start, goal = of_net(at("at", 1)), of_net(at("at", 3))
        two, three = of_net(at("at", 2)), of_net(at("at", 3))
        self.assertIsNone(passing_by(ring_net(), start, goal, [two, three], 0))
        self.assertEqual(passing_by(ring_net(), start, goal, [three, two], 0), ((), (1, 1), ((2, 1), (3, 1), (3, 1))))
        self.assertEqual(passing_by(ring_net(), start, goal, [two, three], 1), (((1, 2),), (1, 1), ((3, 1), (3, 1))))

    def test_no_ride_at_all(self):
        self.assertIsNone(passing_by(ring_net((2, 1)), of_net(at("at", 1)), of_net(at("at", 3)), [of_net(DROP)], 3))
        self.assertIsNone(passing_by(ring_net(), of_net(DROP), of_net(PASS), [of_net(DROP)], 3))
        self.assertIsNone(passing_by(ring_net(), of_net(PASS), of_net(DROP), [of_net(DROP)], 3))

    def test_the_least_packet_and_ride(self):
        rules = {1: [(at("to", 5), ((go(3)[0], go(2)[0]),)), (PASS, (go(2),))], 2: [(PASS, (go(3),))], 3: []}
        one = Net(FIELDS, "at", rules, [(1, 2), (1, 3), (2, 3)])
        start, goal = of_net(at("at", 1)), of_net(at("at", 3))
        self.assertEqual(passing_by(one, start, goal, [of_net(at("at", 2))], 0), ((), (1, 5), ((3, 5), (3, 5))))
        self.assertEqual(passing_by(one, start, goal, [of_net(DROP)], 0), ((), (1, 5), ((3, 5), (3, 5))))
        other = of_net(row(at("at", 1), ("not", at("to", 5))))
        self.assertEqual(passing_by(one, other, goal, [of_net(DROP)], 0), ((), (1, 1), ((2, 1), (3, 1), (3, 1))))

    def test_as_the_words_say(self):
        chance = random.Random(907)
        counts = {}
        for _ in range(900):
            plain = chance.choice((a_plain_net(chance, 2), a_linked_net(chance), a_linked_net(chance)))
            source, goal = some_ends(chance, plain.names)
            if chance.random() < 0.7:
                goal = Program(plain.names, row(goal.tree, at("at", chance.choice(list(plain.tables)))))
                source = Program(plain.names, row(source.tree, at("at", chance.choice(list(plain.tables)))))
            via = some_tests(chance, plain.names)
            if chance.random() < 0.5:
                via = [Program(plain.names, at("at", chance.choice(list(plain.tables))))]
            one = plain.net()
            numbers = numbers_of(one, [source, goal, *via])
            if len(numbers) <= 8:
                most = chance.randrange(4)
                found = passing_by(one, source, goal, via, most)
                self.compare(plain, source, goal, via, most, found)
                key = None if found is None else len(found[0])
                counts[key] = counts.get(key, 0) + 1
                if found is not None and len(found[2]) > 2:
                    counts["long"] = counts.get("long", 0) + 1
        self.assertGreater(counts[0], 30)
        self.assertGreater(counts[1], 5)
        self.assertGreater(counts[None], 30)
        self.assertGreater(counts["long"], 3)

    def compare(self, plain, source, goal, via, most, found):
        one = plain.net()
        starts = [packet for packet in samples(plain.names, numbers_of(one, [source, goal, *via]))
                  if satisfied(plain.names, source.tree, packet)]
        for lot in plain.lots(most):
            told = found is not None and found[0] == lot
            longest = len(found[2]) - 1 if told else 5
            dodged = [(len(way), packet, way) for packet in starts for way in plain.failing(lot).rides(packet, longest)
                      if satisfied(plain.names, goal.tree, way[-1]) and not does_meet(plain.names, way, via)]
            if told:
                self.assertEqual(found[1:], min(dodged)[1:])
                return
            self.assertEqual(dodged, [])
        self.assertIsNone(found)

    def test_they_agree_with_the_program_of_the_net(self):
        chance = random.Random(908)
        for _ in range(25):
            plain = greatest_net(chance)
            one = plain.net()
            source, goal = Program(plain.names, at("at", 1)), Program(plain.names, at("at", chance.choice((2, 3))))
            via = [Program(plain.names, choice(at("at", 4), at("b", 3)))]
            found = passing_by(one, source, goal, via, 1)
            lots = list(plain.lots(1))
            for lot in lots[:2] if found is None else lots[:lots.index(found[0]) + 1][-2:]:
                told = dodging(one.without(lot).program(), source, goal, via)
                if found is not None and lot == found[0]:
                    # The program of the net without links names fewer numbers, so that it has fewer samples.
                    self.assertIsNotNone(told)
                    self.assertEqual(len(told[1]), len(found[2]))
                    self.assertFalse(meets(plain.names, found[2], via))
                else:
                    self.assertIsNone(told)


class AtTheLimits(unittest.TestCase):
    def test_the_greatest_nets(self):
        chance = random.Random(909)
        plain = greatest_net(chance)
        source, goal = Program(plain.names, PASS), Program(plain.names,
                                                           row(at("at", 4), at("b", 1), ("not", at("b", 1))))
        self.assertIsNone(passing_by(plain.net(), source, goal, [source], 3))
        self.assertEqual(stranding(plain.net(), source, goal, 3)[0], ())
        self.assertIsNone(stranding(plain.net(), source, source, 3))


class WrongArguments(unittest.TestCase):
    def test_in_their_order(self):
        one, fine, other = ring_net(), of_net(PASS), solo(PASS)
        for thing in odd_values():
            self.assertEqual(raised(BadNet, stranding, thing, None, None, None).part, "net")
            self.assertEqual(raised(BadNet, passing_by, thing, None, None, None, None).part, "net")
        for thing in no_programs() + [one, Program(FIELDS, ("mark",)), Program(FIELDS, ("loop", PASS))]:
            self.assertEqual(raised(BadTest, stranding, one, thing, None, None).part, "source")
            self.assertEqual(raised(BadTest, stranding, one, fine, thing, None).part, "goal")
            self.assertEqual(raised(BadTest, passing_by, one, thing, None, None, None).part, "source")
            self.assertEqual(raised(BadTest, passing_by, one, fine, thing, None, None).part, "goal")
            self.assertEqual(raised(BadTests, passing_by, one, fine, fine, [fine, thing], None).at, 1)
        raised(OtherFields, stranding, one, other, None, None)
        raised(OtherFields, stranding, one, fine, pair(PASS), None)
        raised(OtherFields, passing_by, one, other, None, None, None)
        raised(OtherFields, passing_by, one, fine, other, None, None)
        for items, index in (([other], 0), ((fine, other), 1), ([fine, fine, pair(PASS)], 2), ([other, None], 0)):
            self.assertEqual(raised(BadTests, passing_by, one, fine, fine, items, None).at, index)
        for thing in ([], (), None, [fine] * 4, (fine,) * 4, fine, {0: fine}, "a"):
            self.assertIsNone(raised(BadTests, passing_by, one, fine, fine, thing, None).at)

    def test_no_tests(self):
        for tree in ONLY_TREES:
            fields = ["a", "b"] + [name for name in ("set", "take") if name in tree[1:]]
            no_test, fine = Program(fields, tree), Program(fields, PASS)
            one = Net(fields, "a", {1: []}, [])
            self.assertEqual(raised(BadTest, stranding, one, no_test, None, None).part, "source")
            self.assertEqual(raised(BadTest, stranding, one, fine, no_test, None).part, "goal")
            self.assertEqual(raised(BadTests, passing_by, one, fine, fine, [fine, no_test], None).at, 1)

    def test_no_bounds(self):
        one, fine = ring_net(), of_net(PASS)
        for most in odd_values() + [True, False, -1, 4, 6, 10 ** 12, "1", (1,), [1], None]:
            with self.subTest(most):
                self.assertEqual(raised(BadMost, stranding, one, fine, fine, most).most, most)
                self.assertEqual(raised(BadMost, passing_by, one, fine, fine, [fine], most).most, most)

    def test_too_many_numbers_behind_all_other_errors(self):
        def named(*numbers):
            return of_net(choice(PASS, PASS, *[at("to", number) for number in numbers]))
        one = Net(FIELDS, "at", {1: [(at("to", 7), (((("set", "to", 8),),),))], 2: []}, [(1, 2)])
        for source, goal, via in ((named(0, 3, 4, 5, 6), named(), named()), (named(), named(0, 3, 4, 5, 9), named()),
                                  (named(0, 3), named(4, 5), named(9))):
            error = raised(TooMany, passing_by, one, source, goal, [via], 3)
            self.assertEqual((error.what, error.most), ("numbers", 8))
            raised(BadMost, passing_by, one, source, goal, [via], 4)
            raised(BadTests, passing_by, one, source, goal, [via, None], 4)
            raised(OtherFields, passing_by, one, source, solo(PASS), [via], 4)
        for source, goal in ((named(0, 3, 4, 5, 6), named()), (named(), named(0, 3, 4, 5, 9)),
                             (named(0, 3), named(4, 5, 9))):
            error = raised(TooMany, stranding, one, source, goal, 3)
            self.assertEqual((error.what, error.most), ("numbers", 8))
            raised(BadMost, stranding, one, source, goal, 4)
        passing_by(one, named(0, 3), named(4, 5), [named(8, 2, 1)], 3)
        self.assertEqual(stranding(one, named(0, 3), named(4, 5), 0), None)

    def test_by_name(self):
        start, goal = of_net(at("at", 1)), of_net(at("at", 3))
        self.assertEqual(stranding(most=1, goal=goal, source=start, net=ring_net()), (((2, 3),), (1, 1)))
        found = passing_by(most=1, via=[of_net(at("at", 2))], goal=goal, source=start, net=ring_net())
        self.assertEqual(found, (((1, 2),), (1, 1), ((3, 1), (3, 1))))

    def test_what_is_passed_stays(self):
        one, via = ring_net(), [of_net(at("at", 2))]
        kept = list(via)
        passing_by(one, of_net(PASS), of_net(PASS), via, 3)
        stranding(one, of_net(PASS), of_net(PASS), 3)
        self.assertEqual((one, via), (ring_net(), kept))


class Lots(unittest.TestCase):
    def test_all_lots_are_tried(self):
        # Each lot of two links strands just one kind of packet.
        links = [(1, 2), (1, 3), (1, 4)]
        for one, other in itertools.combinations((2, 3, 4), 2):
            rules = [(at("to", 5), ((go(one)[0], go(other)[0]),)),
                     (PASS, ((go(2)[0], go(3)[0]), go(4)))]
            net = Net(FIELDS, "at", {1: rules, 2: [], 3: [], 4: []}, links)
            found = stranding(net, of_net(at("at", 1)), of_net(("not", at("at", 1))), 3)
            self.assertEqual(found, (((1, one), (1, other)), (1, 5)))


if __name__ == "__main__":
    unittest.main()
