"""What holds for the objects of all classes, however they were made."""

import unittest

from markedways import errors
from markedways.desk import Desk
from markedways.likeness import parting
from markedways.live import LiveNet, replayed
from markedways.machines import least_machine
from markedways.meeting import meeting_gate
from markedways.nets import Net
from markedways.parts import idle_parts, parts, struck, without
from markedways.programs import Program
from markedways.rounds import most_marks, weakest_gate
from markedways.slices import sliced
from markedways.texts import program_text, read_program, read_tree
from markedways.ways import ways
from samplers import MARK, PASS, at, choice, loop, pair, put, row, solo
from test_nets import LINKS, net, tables
from values import odd_values


def objects():
    """An object of each class, with one that is equal to it if its class has equality."""
    live = LiveNet(net())
    live.do(("cut", (1, 2)))
    found = [(pair(MARK), read_program("fields a b\nmark\n")), (net(), net().without(())), (live, live.copy())]
    return found + [(Desk(["a"]), None), (errors.NothingLeft("x"), None), (errors.BadDeed(("cut", (1, 2))), None)]


class AllObjects(unittest.TestCase):
    def test_equal_to_no_value_of_another_kind(self):
        for one, equal in objects():
            if equal is not None:
                self.assertTrue(one == equal)
                self.assertFalse(one != equal)
            others = [other for other, _ in objects() if other.__class__ is not one.__class__]
            for thing in odd_values() + others:
                if thing.__class__ is not one.__class__:
                    with self.subTest(one=one, thing=thing):
                        self.assertFalse(one == thing)
                        self.assertFalse(thing == one)
                        self.assertTrue(one != thing)

    def test_not_to_be_iterated_over(self):
        for one, _ in objects():
            with self.subTest(one):
                for work in (iter, list, tuple, set, dict, sorted, sum, any, all, enumerate, len):
                    with self.assertRaises(TypeError):
                        work(one)
                with self.assertRaises(TypeError):
                    _ = None in one
                with self.assertRaises(TypeError):
                    for _ in one:
                        self.fail("an object was iterated over")

    def test_attributes_are_there_when_an_object_is_made(self):
        for one, names in ((pair(MARK), ("fields", "numbers", "tree", "marks")), (LiveNet(net()), ("net", "log")),
                           (net(), ("fields", "switches", "links", "switch_field"))):
            for name in names:
                self.assertTrue(hasattr(one, name))


class MadeInOtherWays(unittest.TestCase):
    def answers(self, program):
        source = Program(program.fields, PASS)
        packet = tuple(1 for _ in program.fields)
        return (program.fields, program.numbers, program.tree, program.marks, program(packet), ways(program, packet, 2),
                least_machine(program), most_marks(program, source), parts(program), idle_parts(program),
                program_text(program), parting(program, source), weakest_gate(program, source).tree)

    def test_programs(self):
        one, test = pair(choice(row(at("a", 1), MARK), put("b", 2))), pair(choice(at("a", 1), at("b", 0)))
        found = [one + one, one >> test, ~test, one.loop(), read_program(program_text(one)), without(one, (0, 0)),
                 struck(one, ((1,),)), sliced(one, test, ~test), weakest_gate(one, test),
                 meeting_gate(one, test, [test]),
                 net().program(), net().without(((1, 2),)).program(),
                 Program(("b", "a"), read_tree("a=1; (mark; b:=a)*"))]
        for program in found:
            with self.subTest(program.tree):
                anew = Program(list(program.fields), program.tree)
                self.assertIsInstance(program, Program)
                self.assertTrue(program == anew)
                self.assertEqual(self.answers(program), self.answers(anew))
                self.assertEqual((program + anew).tree, (anew + program).tree)

    def test_nets(self):
        live = LiveNet(net(tables={**tables(), 3: []}))
        live.do(("link", (1, 3)))
        live.do(("cut", (2, 1)))
        live.do(("strike", 1, 1))
        again = replayed(net(tables={**tables(), 3: []}), live.log)
        anew = Net(["to", "at"], "at", {3: (), 2: [], 1: tables()[1][:1]}, [(1, 3), (1, 2)])
        for one in (live.net, again.net, anew.without(()), net(tables={3: [], 2: [], 1: tables()[1][:1]}, links=[
                *LINKS, (1, 3), (3, 2)]).without(((2, 1), (3, 2)))):
            self.assertIsInstance(one, Net)
            self.assertTrue(one == anew)
            self.assertEqual((one.fields, one.switches, one.links, one.switch_field),
                             (("at", "to"), (1, 2, 3), ((1, 2), (1, 3)), "at"))
            self.assertEqual([one[switch] for switch in (1, 2, 3)], [anew[switch] for switch in (1, 2, 3)])
            self.assertEqual(one.program(), anew.program())
            self.assertEqual(one.rides((1, 7), 3), anew.rides((1, 7), 3))

    def test_programs_and_nets_never_change(self):
        one, other = solo(row(at("a", 1), MARK)), net()
        for work in (lambda: one.loop() + one, lambda: one >> one, lambda: without(one, (0,)), lambda: idle_parts(one),
                     lambda: other.without(((1, 2),)), lambda: other.program(), lambda: other.rides((1, 7), 3),
                     lambda: LiveNet(other).do(("cut", (1, 2))), lambda: replayed(other, [("strike", 1, 0)])):
            work()
            self.assertEqual((one, other), (solo(row(at("a", 1), MARK)), net()))
        for thing, name in ((one, "tree"), (one, "fields"), (other, "links"), (LiveNet(other), "net"),
                            (LiveNet(other), "log")):
            with self.assertRaises(AttributeError):
                setattr(thing, name, ())
        with self.assertRaises(TypeError):
            other[1] = ()

    def test_loops_of_what_was_read(self):
        self.assertEqual(read_program("fields a\na=1; mark\n").loop(), solo(loop(row(at("a", 1), MARK))))


if __name__ == "__main__":
    unittest.main()
