import random
import unittest

from markedways.errors import BadMost, BadPacket
from markedways.likeness import alike
from markedways.nets import Net
from markedways.packets import samples
from markedways.programs import Program, all_trees
from markedways.ways import is_way, ways
from net_oracle import Plain, a_plain_net, greatest_net
from samplers import DROP, MARK, PASS, a_packet, at, choice, row, take
from test_courses import NO_PACKETS
from test_gates import levels
from test_nets import net
from test_programs import raised
from values import NO_MOSTS, odd_values

ALL = [(1, 2), (1, 3), (2, 1), (2, 3), (3, 1), (3, 2)]


def go(number, *steps):
    return (("set", "at", number), *steps)


def one_table(*rules, links=ALL):
    """A net the table of the switch 1 of which has these rules."""
    return Net(["at", "b"], "at", {1: list(rules), 2: [], 3: []}, links)


class Hop(unittest.TestCase):
    def test_the_first_rule_that_fits(self):
        one = one_table((at("b", 5), ((go(2),),)), (choice(at("b", 5), at("b", 6)), ((go(3),),)), (at("b", 7), ()))
        self.assertEqual([one.hop((1, number)) for number in (5, 6, 7, 8)], [[(2, 5)], [(3, 6)], [], []])

    def test_a_rule_without_open_actions_is_taken_all_the_same(self):
        for groups in ((), (((),),), ((go(1),),), ((go(9),),), ((go(2), go(9)),) * 2):
            one = one_table((at("b", 5), groups), (PASS, ((go(3),),)), links=[(1, 3), (2, 1), (2, 3)])
            self.assertEqual(one.hop((1, 5)), [])
            self.assertEqual(one.hop((1, 6)), [(3, 6)])

    def test_packets_at_no_switch_and_switches_without_rules(self):
        one = one_table((PASS, ((go(2),),)))
        for packet in ((0, 1), (4, 1), (9, 9), (10 ** 12, 1), (2, 1), (3, 1)):
            self.assertEqual(one.hop(packet), [])

    def test_the_first_group_with_an_open_action(self):
        for links, wanted in ((ALL, [(2, 8)]), ([(1, 3)], [(3, 9)]), ([(2, 1), (3, 1)], []), ([], []),
                              ([(1, 2)], [(2, 8)])):
            one = one_table((PASS, ((go(2, ("set", "b", 8)),), (go(3, ("set", "b", 9)),))), links=links)
            self.assertEqual(one.hop((1, 5)), wanted)

    def test_all_open_actions_of_this_group(self):
        both = (go(3, ("set", "b", 0)), go(2))
        one = one_table((PASS, (both, (go(2, ("set", "b", 9)),))))
        self.assertEqual(one.hop((1, 5)), [(2, 5), (3, 0)])
        self.assertEqual(one.without(((1, 2),)).hop((1, 5)), [(3, 0)])
        self.assertEqual(one.without(((1, 3),)).hop((1, 5)), [(2, 5)])
        self.assertEqual(one.without(((1, 2), (1, 3))).hop((1, 5)), [])

    def test_two_actions_with_the_same_packet(self):
        one = one_table((PASS, ((go(2, ("set", "b", 4)), (("set", "b", 4), ("take", "at", "b"), ("set", "at", 2))),)))
        self.assertEqual(one.hop((1, 5)), [(2, 4)])
        self.assertEqual(one_table((PASS, ((go(2), go(2)),))).hop((1, 5)), [(2, 5)])

    def test_steps_one_after_the_other(self):
        for steps, wanted in (
                (go(2, ("take", "b", "at")), [(2, 2)]), ((("take", "b", "at"), ("set", "at", 2)), [(2, 1)]),
                ((("set", "b", 3), ("take", "at", "b"), ("set", "b", 7)), [(3, 7)]),
                ((("take", "at", "b"), ("set", "b", 7)), [(2, 7)]), ((("set", "at", 3), ("set", "at", 2)), [(2, 2)]),
                (go(2, ("set", "at", 1)), []), ((("take", "b", "at"), ("take", "at", "b")), [])):
            with self.subTest(steps):
                self.assertEqual(one_table((PASS, ((steps,),))).hop((1, 2)), wanted)

    def test_open_by_a_number_of_the_packet(self):
        one = one_table((PASS, (((("take", "at", "b"),),), (go(2),))))
        found = [one.hop((1, number)) for number in (0, 1, 2, 3, 4, 10 ** 12)]
        self.assertEqual(found, [[(2, 0)], [(2, 1)], [(2, 2)], [(3, 3)], [(2, 4)], [(2, 10 ** 12)]])

    def test_the_example_of_the_document(self):
        near, far = ((("set", "at", 2),),), ((("set", "at", 3),),)
        one = Net(["at", "to"], "at", {1: [(("pass",), (near, far))], 2: [(("pass",), (far,))], 3: []},
                  [(1, 2), (1, 3), (2, 3)])
        self.assertEqual((one.hop((1, 9)), one.without(((1, 2),)).hop((1, 9))), ([(2, 9)], [(3, 9)]))

    def test_as_the_words_say(self):
        chance = random.Random(902)
        counts = {}
        for _ in range(400):
            plain = a_plain_net(chance)
            plain = plain.failing(chance.sample(plain.links,
                                                chance.randrange(len(plain.links) + 1)) if plain.links else ())
            one = plain.net()
            for _ in range(20):
                packet = a_packet(chance, plain.names, [*one.switches, *one.switches, *one.switches, *range(11)])
                found = one.hop(packet)
                counts[len(found)] = counts.get(len(found), 0) + 1
                self.assertEqual(found, plain.hop(packet))
        self.assertGreater(counts[1], 600)
        self.assertGreater(counts[2], 50)

    def test_a_new_list_each_time(self):
        one = net()
        one.hop((1, 7)).clear()
        self.assertEqual(one.hop((1, 7)), [(2, 7)])
        one.rides((1, 7), 1).clear()
        self.assertEqual(one.rides((1, 7), 1), [((1, 7),), ((2, 7), (2, 7))])

    def test_no_packets(self):
        for thing in odd_values() + NO_PACKETS:
            with self.subTest(thing):
                self.assertEqual(raised(BadPacket, net().hop, thing).packet, thing)
                self.assertEqual(raised(BadPacket, net().rides, thing, None).packet, thing)


class Rides(unittest.TestCase):
    def test_a_ride_of_no_hop(self):
        for packet in ((1, 5), (2, 5), (7, 7), (10 ** 12, 0)):
            self.assertEqual(net().rides(packet, 0), [(packet,)])
        self.assertEqual(net().rides((7, 7), 6), [((7, 7),)])

    def test_rides_that_go_round(self):
        back = (PASS, ((go(1),),))
        one = Net(["at", "b"], "at", {1: [(PASS, ((go(2),),))], 2: [back]}, [(1, 2), (2, 1)])
        there, here = (2, 5), (1, 5)
        wanted = [(here,), (there, there), (there, here, here), (there, here, there, there)]
        for most in range(4):
            self.assertEqual(one.rides(here, most), wanted[:most + 1])
        self.assertEqual(one.rides(here, 6)[-1], (there, here, there, here, there, here, here))

    def test_the_order_of_ways(self):
        both = (go(3), go(2))
        one = Net(["at", "b"], "at", {1: [(PASS, (both,))], 2: [(PASS, ((go(3), go(1)),))], 3: []}, ALL)
        self.assertEqual(one.rides((1, 0), 2), [
            ((1, 0),), ((2, 0), (2, 0)), ((3, 0), (3, 0)), ((2, 0), (1, 0), (1, 0)), ((2, 0), (3, 0), (3, 0))])

    def test_as_the_words_say(self):
        chance = random.Random(903)
        longest = 0
        for _ in range(100):
            plain = a_plain_net(chance)
            one = plain.net()
            for most in range(7):
                packet = a_packet(chance, plain.names, list(one.switches) + [5])
                found = one.rides(packet, most)
                longest = max(longest, len(found))
                self.assertEqual(found, plain.rides(packet, most))
        self.assertGreater(longest, 15)

    def test_no_bounds(self):
        for most in NO_MOSTS + [7, 10 ** 12]:
            with self.subTest(most):
                self.assertEqual(raised(BadMost, net().rides, (1, 7), most).most, most)
        for most in range(7):
            self.assertIsInstance(net().rides((1, 7), most), list)


class Programs(unittest.TestCase):
    def program_of(self, one):
        program = one.program()
        self.assertIsInstance(program, Program)
        self.assertEqual(program.fields, one.fields)
        self.assertEqual(program.marks, 1)
        self.assertTrue(any(tree[0] == "loop" and MARK in all_trees(tree) for tree in all_trees(program.tree)))
        self.assertEqual(one.program(), program)
        return program

    def test_nets_without_rules_or_links(self):
        for one in (net(tables={1: [], 2: []}), net(links=[]), net(tables={5: []}, links=[]),
                    net(tables={1: [(DROP, ())], 2: [(PASS, ())]})):
            self.assertTrue(alike(self.program_of(one), Program(one.fields, PASS)))

    def test_a_net_of_one_hop(self):
        program = self.program_of(net(links=[(1, 2)]))
        self.assertEqual(ways(program, (1, 7), 6), [((1, 7),), ((2, 7), (2, 7))])
        self.assertEqual(ways(program, (2, 7), 6), [((2, 7),)])
        wanted = choice(PASS, row(at("at", 1), ("set", "at", 2), MARK))
        self.assertTrue(alike(program, Program(["at", "to"], wanted)))

    def test_links_that_are_open_by_a_number_of_the_packet(self):
        one = one_table((PASS, (((("take", "at", "b"),),), (go(2),))))
        links = choice(at("b", 2), at("b", 3))
        wanted = choice(PASS,
                        row(at("at", 1), choice(row(links, take("at", "b")), row(("not", links), ("set", "at", 2))),
                            MARK))
        self.assertTrue(alike(self.program_of(one), Program(["at", "b"], wanted)))

    def test_its_ways_are_the_rides(self):
        chance = random.Random(904)
        for _ in range(120):
            plain = a_plain_net(chance)
            if chance.random() < 0.5 and plain.links:
                lot = tuple(sorted(chance.sample(plain.links, chance.randrange(len(plain.links)))))
                one, plain = plain.net().without(lot), plain.failing(lot)
            else:
                one = plain.net()
            program = self.program_of(one)
            for _ in range(4):
                packet = a_packet(chance, plain.names, list(one.switches) + [0, 1, 77])
                self.assertEqual(ways(program, packet, 4), plain.rides(packet, 4))

    def test_of_the_greatest_nets(self):
        chance = random.Random(905)
        many = 0
        for _ in range(3):
            plain = greatest_net(chance)
            for lot in ((), ((1, 2), (3, 4)), tuple(sorted(chance.sample(plain.links, 6)))):
                one, rest = plain.net().without(lot), plain.failing(lot)
                program = self.program_of(one)
                self.assertLessEqual(levels(program.tree), 12)
                for packet in chance.sample(samples(plain.names, list(range(1, 9)))[:324], 12):
                    found = rest.rides(packet, 3)
                    many += len(found)
                    self.assertEqual(one.rides(packet, 3), found)
                    self.assertEqual(ways(program, packet, 3), found)
        self.assertGreater(many, 200)

    def test_rides_of_many_hops(self):
        links = [(1, 2), (2, 3), (3, 4), (4, 1)]
        tables = {number: [(PASS, ((go(number % 4 + 1),),))] for number in (1, 2, 3, 4)}
        plain = Plain(["b", "at"], "at", tables, links)
        way = tuple((k % 4 + 1, 8) for k in range(1, 39))
        self.assertTrue(is_way(plain.net().program(), (1, 8), way + way[-1:]))
        self.assertFalse(is_way(plain.net().program(), (1, 8), way + way[-2:-1]))
        self.assertFalse(is_way(plain.net().program(), (2, 8), way + way[-1:]))


if __name__ == "__main__":
    unittest.main()
