import copy
import itertools
import random
import unittest

from markedways.errors import BadFields, BadLot, BadNet, BadRule, TooMany
from markedways.nets import Net
from markedways.programs import Program
from net_oracle import a_plain_net
from test_packets import NO_FIELDS
from test_programs import raised
from test_trees import DROP, MARK, NEARLY, ONLY_TREES, PASS, nested
from values import odd_values

FIELDS = ["at", "to"]
GO = (("set", "at", 2),)
RULE = (PASS, ((GO,),))
LINKS = [(1, 2), (2, 1)]


def tables():
    return {1: [RULE, (("is", "to", 1), ())], 2: []}


def net(**other):
    """A net of two switches, with other parts where they are told."""
    return Net(**{"fields": FIELDS, "at": "at", "tables": tables(), "links": LINKS, **other})


def of_rule(rule):
    return Net(["a", "at", "b"], "at", {1: [RULE, rule], 2: []}, [])


GOOD_RULES = [
    (PASS, ()), (DROP, (((),),)), (PASS, (((), ()),)), (PASS, ((GO, GO), (GO, ()))), (("is", "b", 8), ()),
    (PASS, ((GO * 3,), (GO * 3, GO * 3))), (PASS, (((("take", "a", "at"),),),)),
    (("row",) + (PASS,) * 11, ()), (nested(["not"], 4), ()), (nested(["row"], 4), ()),
    (("not", ("row",) + (PASS,) * 10), ()),
]
BAD_RULES = [
    (), (PASS,), (PASS, (), ()), [PASS, ()], PASS, (PASS, []), (PASS, None), (PASS, 0), (PASS, {}), (["pass"], ()),
    (MARK, ()), (("set", "a", 1), ()), (("loop", PASS), ()), (("take", "a", "b"), ()), (None, ()), ("pass", ()),
    ((), ()),
    (("row",) + (PASS,) * 12, ()), (nested(["not"], 5), ()), (nested(["choice"], 5), ()),
    (("not", ("not", ("not", ("row", PASS, PASS)))), ()), (("row", PASS, ("not", ("row",) + (PASS,) * 9)), ()),
    (("is", "c", 1), ()), (("row", PASS, ("is", "c", 1)), ()), (("is", "a", True), ()), (("is", "a", -1), ()),
    (PASS, ((GO,), (GO,), (GO,))), (PASS, ((),)), (PASS, ((GO,), ())), (PASS, ((GO, GO, GO),)), (PASS, ([GO],)), (PASS, ((GO, GO * 4),)),
    (PASS, ((GO * 4, GO),)),
    (PASS, [(GO,)]), (PASS, (([GO[0]],),)), (PASS, ((GO[0],),)), (PASS, (GO,)), (PASS, GO), (PASS, ((GO * 4,),)),
    (PASS, ((GO,), (GO * 4,))), (PASS, (((["set", "at", 2],),),)), (PASS, (((PASS,),),)), (PASS, (((MARK,),),)),
    (PASS, (((("is", "a", 1),),),)), (PASS, (((("row", GO[0], GO[0]),),),)), (PASS, (((("set", "c", 1),),),)),
    (PASS, (((("take", "a", "c"),),),)), (PASS, (((("take", "c", "a"),),),)), (PASS, (((("take", "a", "a"),),),)),
    (PASS, (((("set", "a", True),),),)), (PASS, (((("set", "a", -1),),),)), (PASS, (((("set", "a"),),),)),
    (PASS, (((None,),),)), (PASS, ((None,),)), (PASS, (None,)), (PASS, ((("set", "a", 1),),)), {PASS: ()}, (PASS, "ab"),
    (PASS, (((("loop", PASS),),),)), (Program(["a"], PASS), ()), (PASS, (((Program(["a"], PASS),),),)),
]


class Parts(unittest.TestCase):
    def test_properties(self):
        one = Net(["to", "at"], "at", {5: [], 0: [RULE], 2: ()}, [(5, 0), (0, 5), (0, 2), (2, 0)])
        self.assertEqual(one.fields, ("at", "to"))
        self.assertEqual(one.switches, (0, 2, 5))
        self.assertEqual(one.links, ((0, 2), (0, 5), (2, 0), (5, 0)))
        self.assertEqual(one.switch_field, "at")
        self.assertEqual([one[switch] for switch in (0, 2, 5)], [(RULE,), (), ()])
        for thing in (one.fields, one.switches, one.links, one[0]):
            self.assertIsInstance(thing, tuple)

    def test_one_to_four_switches_and_no_links(self):
        for many in (1, 2, 3, 4):
            one = Net(["at"], "at", {number: [] for number in range(10 - many, 10)}, [])
            self.assertEqual((one.switches, one.links), (tuple(range(10 - many, 10)), ()))
        every = list(itertools.permutations((1, 2, 3, 4), 2))
        self.assertEqual(Net(["at"], "at", dict.fromkeys((4, 2, 3, 1), ()), every[::-1]).links, tuple(every))

    def test_lists_and_tuples(self):
        table = tables()
        for kind in (list, tuple):
            for other in (list, tuple):
                one = Net(kind(FIELDS), "at", {switch: other(table[switch]) for switch in (2, 1)}, kind(LINKS[::-1]))
                self.assertEqual(one, net())
                self.assertEqual(one[1], tuple(table[1]))

    def test_rules(self):
        for rule in GOOD_RULES:
            with self.subTest(rule):
                self.assertEqual(of_rule(rule)[1], (RULE, rule))

    def test_any_switch_field(self):
        one = Net(["c", "b", "a"], "b", {1: [(PASS, (((("set", "b", 2),),),))], 2: []}, [(1, 2)])
        self.assertEqual(one.switch_field, "b")
        self.assertEqual(one.hop((2, 1, 1)), [(2, 2, 1)])

    def test_what_is_passed_may_change_behind_it(self):
        fields, table, links = list(FIELDS), tables(), list(LINKS)
        one = Net(fields, "at", table, links)
        self.assertEqual((fields, table, links), (FIELDS, tables(), LINKS))
        fields.append("c")
        table[1].clear()
        table[2].append(RULE)
        table[3] = []
        links.pop()
        self.assertEqual(one, net())
        self.assertEqual(one.hop((1, 7)), [(2, 7)])
        self.assertEqual((one.switches, one[1], one[2]), ((1, 2), tuple(tables()[1]), ()))

    def test_by_name(self):
        self.assertEqual(Net(links=LINKS, tables=tables(), at="at", fields=FIELDS), net())
        self.assertEqual(net().hop(packet=(1, 7)), [(2, 7)])
        self.assertEqual(net().rides(most=1, packet=(1, 7)), [((1, 7),), ((2, 7), (2, 7))])
        self.assertEqual(net().without(lot=((1, 2),)), net(links=[(2, 1)]))


class Switches(unittest.TestCase):
    def test_no_switches(self):
        for thing in odd_values() + [0, 3, 12, -1, "1", (1,), [1], 10 ** 12, {1: 1}, net()]:
            with self.subTest(thing):
                self.assertEqual(raised(BadNet, net().__getitem__, thing).part, "switch")
        with self.assertRaises(BadNet):
            _ = net()[True]

    def test_it_cannot_be_iterated_over(self):
        with self.assertRaises(TypeError):
            iter(net())
        for work in (list, tuple, sorted, dict, set, sum, any, min, enumerate, reversed, len):
            with self.assertRaises(TypeError):
                work(net())
        with self.assertRaises(TypeError):
            _ = 1 in net()
        with self.assertRaises(TypeError):
            for _ in net():
                break


class Equality(unittest.TestCase):
    def test_all_parts(self):
        self.assertTrue(net() == net())
        self.assertFalse(net() != net())
        for other in (net(fields=["at", "to", "b"]), net(links=LINKS[:1]), net(links=[]),
                      net(tables={1: [RULE], 2: []}),
                      net(tables={1: tables()[1][::-1], 2: []}), net(tables={**tables(), 3: []}),
                      net(tables={**tables(), 2: [RULE]}), net(tables={1: [], 2: []})):
            self.assertFalse(net() == other)
            self.assertTrue(net() != other)
            self.assertTrue(other == other.without(()))
        plain = {1: [], 2: []}
        self.assertNotEqual(Net(["at", "to"], "at", plain, LINKS), Net(["at", "to"], "to", plain, LINKS))
        self.assertNotEqual(Net(["at"], "at", plain, LINKS), Net(["at", "to"], "at", plain, LINKS))

    def test_no_value_of_another_kind(self):
        one = net()
        for thing in odd_values() + [tables(), LINKS, (one.fields, "at", tables(), LINKS), one.program(), one[1]]:
            with self.subTest(thing):
                self.assertFalse(one == thing)
                self.assertFalse(thing == one)
                self.assertTrue(one != thing)


class WrongParts(unittest.TestCase):
    def test_no_fields(self):
        for thing in NO_FIELDS + odd_values():
            raised(BadFields, Net, thing, None, None, None)

    def test_no_switch_field(self):
        for thing in odd_values() + ["c", "att", "AT", ["at"], ("at",), 0]:
            if thing != "a":
                self.assertEqual(raised(BadNet, net, at=thing, tables=None, links=None).part, "at")
        self.assertEqual(raised(BadNet, net, fields=["b"], tables=None, links=None).part, "at")

    def test_no_tables(self):
        for thing in odd_values() + [
                {}, {True: [], 2: []}, {False: []}, {-1: []}, {10: []}, {"1": []}, {None: []}, {(1,): []},
                {1: [], "b": []},
                dict.fromkeys(range(5), ()), {1: None}, {1: {}}, {1: RULE, 2: "ab"}, {1: [], 2: 0}, {1: [RULE] * 5},
                {1: (RULE,) * 5}, {1: [], 2: [None] * 5}, [(1, []), (2, [])], [[], []], ((1, ()),), "12",
                {10 ** 99: []},
                {1: {0: RULE}}, {1: [], 2: net()}]:
            if not isinstance(thing, dict) or list(thing) != [1]:
                with self.subTest(thing):
                    self.assertEqual(raised(BadNet, net, tables=thing, links=None).part, "tables")
        self.assertEqual(raised(BadNet, net, tables={1: RULE * 3, 2: []}, links=None).part, "tables")

    def test_no_rules(self):
        for rule in BAD_RULES:
            with self.subTest(rule):
                self.assertEqual(raised(BadRule, of_rule, rule).at, (1, 1))
        for thing in odd_values() + NEARLY + [(thing, ()) for thing in NEARLY] + [(tree, ()) for tree in ONLY_TREES]:
            self.assertEqual(raised(BadRule, of_rule, thing).at, (1, 1))

    def test_the_least_rule_that_is_none(self):
        for table, at in (({2: [None], 1: [RULE, None, None]}, (1, 1)), ({2: [None], 1: [RULE]}, (2, 0)),
                          ({9: [RULE, RULE, RULE, None], 0: []}, (9, 3)), ({7: (RULE, 1), 3: (RULE, RULE, 2)}, (3, 2))):
            self.assertEqual(raised(BadRule, net, tables=table, links=None).at, at)

    def test_no_links(self):
        for thing in odd_values() + [
                [(1, 2), (1, 2)], [(1, 2), (2, 1), (1, 2)], [(1, 1)], [(2, 2), (1, 2)], [(1, 3)], [(3, 1)], [[1, 2]],
                [(1, 2), [2, 1]], [(1, 2, 1)], [(1,)], [()], [(True, 2)], [(2, True)], [("1", 2)], [(1, None)],
                [(1, -2)],
                (1, 2), {(1, 2): True}, {1: 2}, "12", None, 12, [1, 2], ((1, 2), 2), [(1, (2,))], [(1, [2])],
                [({}, 2)]]:
            if thing not in ((), []):
                with self.subTest(thing):
                    self.assertEqual(raised(BadNet, net, links=thing).part, "links")

    def test_too_many_numbers(self):
        def named(*numbers):
            return [(("choice", PASS, *[("is", "to", number) for number in numbers]), ())]
        for tables_too in ({1: named(*range(2, 10))}, {0: [], 9: named(1, 2, 3, 4, 5, 6, 10 ** 12)},
                           {1: named(5, 6, 7), 2: named(8, 0), 3: [], 4: [(PASS, (((("set", "to", 9),),),))]},
                           {1: named(*range(8)) + named(8), 2: []}):
            error = raised(TooMany, net, tables=tables_too, links=[])
            self.assertEqual((error.what, error.most), ("numbers", 8))
            self.assertEqual(raised(BadNet, net, tables=tables_too, links=None).part, "links")
        self.assertEqual(net(tables={1: named(*range(2, 9))}, links=[]).switches, (1,))
        self.assertEqual(net(tables={1: named(5, 6, 7), 2: named(8), 3: named(1, 2), 4: []}, links=[]).switches,
                         (1, 2, 3, 4))

    def test_several_things_at_once(self):
        wrong = {"fields": None, "at": "c", "tables": {1: [], 11: []}, "links": [(1, 1)]}
        raised(BadFields, net, **wrong)
        del wrong["fields"]
        self.assertEqual(raised(BadNet, net, **wrong).part, "at")
        del wrong["at"]
        self.assertEqual(raised(BadNet, net, **wrong).part, "tables")
        self.assertEqual(raised(BadNet, net, tables={1: [None] * 5, 2: [None]}, links=None).part, "tables")
        self.assertEqual(raised(BadRule, net, tables={1: [RULE], 2: [None]}, links=[(1, 1)]).at, (2, 0))
        wrong["tables"] = {1: [RULE], 2: []}
        self.assertEqual(raised(BadNet, net, **wrong).part, "links")


class Without(unittest.TestCase):
    def test_lots(self):
        one = Net(FIELDS, "at", {1: [RULE], 2: [], 3: []}, [(1, 2), (2, 3), (3, 1), (1, 3)])
        kept = copy.copy(one)
        self.assertEqual(one.without(((1, 2), (3, 1))).links, ((1, 3), (2, 3)))
        self.assertEqual(one.without(one.links).links, ())
        self.assertEqual(one.without(((1, 2),)), Net(FIELDS, "at", {1: [RULE], 2: [], 3: []}, [(3, 1), (2, 3), (1, 3)]))
        self.assertEqual(one.without(()), one)
        self.assertEqual(one, kept)
        self.assertEqual(one.links, ((1, 2), (1, 3), (2, 3), (3, 1)))

    def test_no_lots(self):
        for thing in odd_values() + [
                [], [(1, 2)], ((2, 1), (1, 2)), ((1, 2), (1, 2)), ((1, 3),), ((2, 2),), ((True, 2),), ([1, 2],), (1, 2),
                ((1, 2, 3),), ((1,),), ((),), ((1, 2), None), {(1, 2): 1}, "", None, ((1, 2), (2, 1), (2, 1)),
                ((0, 1),),
                ((1, 2), (2, "1")), ((1, 2), [2, 1]), (((1, 2),),)]:
            if thing != ():
                with self.subTest(thing):
                    raised(BadLot, net().without, thing)
        raised(BadLot, net(links=[(1, 2)]).without, ((1, 2), (2, 1)))
        raised(BadLot, net(links=[]).without, ((1, 2),))

    def test_again_and_again(self):
        chance = random.Random(901)
        for _ in range(40):
            plain = a_plain_net(chance)
            one = plain.net()
            left = list(one.links)
            while left:
                gone = chance.choice(left)
                left.remove(gone)
                one = one.without((gone,))
                self.assertEqual(one, plain.failing([pair for pair in plain.links if pair not in left]).net())
                self.assertEqual(one.links, tuple(left))


if __name__ == "__main__":
    unittest.main()
