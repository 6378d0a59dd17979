import copy
import itertools
import random
import unittest

from markedways.errors import BadDeed, BadJournal, BadNet, NothingLeft, WayError
from markedways.live import LiveNet, first_wrong, replayed
from markedways.nets import Net
from markedways.programs import Program
from net_oracle import a_linked_net, a_plain_net, a_rule
from samplers import PASS, at
from test_nets import BAD_RULES, GO, GOOD_RULES, LINKS, RULE, net, tables
from test_programs import raised
from values import odd_values

OTHER = (at("to", 7), ((GO,), ((("set", "at", 1),),)))
UNDO = ("undo",)


class Stop(Exception):
    """Something that leaves a block."""


def live(*deeds, **other):
    """A live net of the net of two switches that did these deeds."""
    one = LiveNet(net(**other))
    for deed in deeds:
        one.do(deed)
    return one


def state(one):
    return one.net, one.log


BAD_DEEDS = [
    (), ("rule",), ("rule", 1), ("rule", 1, 0), ("rule", 1, 0, RULE, RULE), ("rule", 1, 3, RULE), ("rule", 1, -1, RULE),
    ("rule", 1, True, RULE), ("rule", True, 0, RULE), ("rule", 4, 0, RULE), ("rule", "1", 0, RULE),
    ("rule", (1,), 0, RULE),
    ("rule", [1], 0, RULE), ("rule", None, 0, RULE), ("rule", 1, None, RULE), ("rule", 1, "0", RULE),
    ("rule", 1, 10 ** 99, RULE),
    ("rule", 1, 0, list(RULE)), ("rule", 1, 0, None), ("rule", 1, 0, PASS), ("rule", 1, 0, (PASS, [(GO,)])),
    ("rule", 1, 0, (at("b", 1), ())), ("rule", 2, 1, RULE), ["rule", 1, 0, RULE], ("rule", 1, [0], RULE),
    ("rule", {}, 0, RULE),
    ("strike",), ("strike", 1), ("strike", 1, 2), ("strike", 2, 0), ("strike", 1, -1), ("strike", 1, True),
    ("strike", True, 0),
    ("strike", 4, 0), ("strike", 1, 0, RULE), ("strike", 1, None), ("strike", [1], 0), ["strike", 1, 0],
    ("strike", 1, (0,)),
    ("strike", 1, 10 ** 99), ("link",), ("link", 1, 2), ("link", [2, 3]), ("link", (1, 2)), ("link", (2, 1)),
    ("link", (1, 1)),
    ("link", (1, 4)), ("link", (True, 2)), ("link", (3, True)), ("link", (1,)), ("link", (1, 2, 3)), ("link", None),
    ("link", 12),
    ("link", "12"), ("link", ((1, 3),)), ["link", (1, 3)], ("link", (1, None)), ("link", (1, [3])), ("link", {1: 3}),
    ("cut",), ("cut", 1, 2), ("cut", [1, 2]), ("cut", (1, 3)), ("cut", (2, 2)), ("cut", (True, 2)), ("cut", (2, True)),
    ("cut", None), ("cut", 12), ["cut", (1, 2)], ("cut", (1, 2), (2, 1)), ("cut", ((1, 2),)), ("cut", (1, [2])), UNDO,
    ("undo", 1),
    ("Rule", 1, 0, RULE), ("drop", 1), (None,), (["link"], (1, 3)), ("", (1, 2)), (("link",), (1, 2)), "rule", "cut",
    ("rule", 1, 0, (at("to", 10 ** 99), ()), 1), (Program(["at"], PASS), (1, 2)), ("cut", net()), (net(), (1, 2)),
]


class Deeds(unittest.TestCase):
    def test_a_new_live_net(self):
        one = LiveNet(net())
        self.assertEqual(state(one), (net(), []))
        self.assertIsInstance(one.net, Net)

    def test_rule(self):
        first, second = tables()[1]
        for index, wanted in ((0, (OTHER, first, second)), (1, (first, OTHER, second)), (2, (first, second, OTHER))):
            one = live(("rule", 1, index, OTHER))
            self.assertEqual(one.net, net(tables={1: wanted, 2: []}))
            self.assertEqual(one.log, [("rule", 1, index, OTHER)])
        one = live(("rule", 2, 0, OTHER), ("rule", 2, 0, RULE))
        self.assertEqual(one.net[2], (RULE, OTHER))

    def test_strike(self):
        first, second = tables()[1]
        self.assertEqual(live(("strike", 1, 0)).net[1], (second,))
        self.assertEqual(live(("strike", 1, 1)).net[1], (first,))
        one = live(("strike", 1, 1), ("strike", 1, 0))
        self.assertEqual(one.net, net(tables={1: [], 2: []}))
        self.assertEqual(one.log, [("strike", 1, 1), ("strike", 1, 0)])

    def test_link_and_cut(self):
        one = live(("link", (2, 3)), ("cut", (1, 2)), ("link", (3, 1)), tables={1: [], 2: [], 3: []})
        self.assertEqual(one.net.links, ((2, 1), (2, 3), (3, 1)))
        self.assertEqual(one.net, net(tables={1: [], 2: [], 3: []}, links=[(3, 1), (2, 3), (2, 1)]))
        one.do(("link", (1, 2)))
        self.assertEqual(one.net.links, ((1, 2), (2, 1), (2, 3), (3, 1)))
        self.assertEqual(live(("cut", (1, 2)), ("cut", (2, 1))).net, net(links=[]))

    def test_the_answers_are_those_of_a_new_net(self):
        one = live(("cut", (1, 2)))
        self.assertEqual(one.net.hop((1, 7)), [])
        one.do(("link", (1, 2)))
        self.assertEqual(one.net.hop((1, 7)), [(2, 7)])
        one.do(("rule", 1, 0, (at("to", 7), ())))
        self.assertEqual((one.net.hop((1, 7)), one.net.hop((1, 8))), ([], [(2, 8)]))
        one.undo()
        self.assertEqual(one.net.hop((1, 7)), [(2, 7)])

    def test_deeds_return_none(self):
        one = live()
        self.assertIsNone(one.do(("cut", (1, 2))))
        self.assertIsNone(one.undo())

    def test_rules_of_every_form(self):
        fields, switches = ["a", "at", "b"], {1: [RULE], 2: []}
        for rule in GOOD_RULES:
            one = LiveNet(Net(fields, "at", switches, []))
            one.do(("rule", 2, 0, rule))
            self.assertEqual(one.net[2], (rule,))
        one = LiveNet(Net(fields, "at", switches, []))
        for rule in BAD_RULES + odd_values():
            with self.subTest(rule):
                self.assertEqual(raised(BadDeed, one.do, ("rule", 2, 0, rule)).deed, ("rule", 2, 0, rule))
        self.assertEqual(state(one), (Net(fields, "at", switches, []), []))

    def test_no_deeds(self):
        for deed in BAD_DEEDS + odd_values():
            one = live(("rule", 2, 0, OTHER), ("strike", 2, 0), tables={**tables(), 3: []})
            before = state(one)
            with self.subTest(deed):
                self.assertEqual(raised(BadDeed, one.do, deed).deed, deed)
                self.assertEqual(state(one), before)

    def test_a_fifth_rule_and_a_ninth_number(self):
        one = live(("rule", 1, 2, RULE), ("rule", 1, 0, RULE))
        before = state(one)
        for index in range(6):
            raised(BadDeed, one.do, ("rule", 1, index, RULE))
        for number in range(3, 8):
            one.do(("rule", 2, 0, (at("to", number), ())))
            one.undo()
        named = ("choice", *[at("to", number) for number in range(3, 9)])
        one.do(("rule", 2, 0, (named, ())))
        for number, fits in ((1, True), (8, True), (9, False), (0, False)):
            deed = ("rule", 2, 1, (at("to", number), ()))
            if fits:
                one.do(deed)
                one.undo()
            else:
                self.assertEqual(raised(BadDeed, one.do, deed).deed, deed)
        one.undo()
        self.assertEqual(state(one), before)

    def test_a_deed_that_is_refused_is_not_kept(self):
        deed = ["rule", 1, [0]]
        error = raised(BadDeed, live().do, deed)
        deed[2].append(1)
        self.assertEqual(error.deed, ["rule", 1, [0]])

    def test_by_name(self):
        one = LiveNet(net=net())
        one.do(deed=("cut", (1, 2)))
        self.assertEqual(one.tried(work=lambda same: same.log), [("cut", (1, 2))])

    def test_no_net(self):
        for thing in odd_values() + [live(), tables(), None]:
            self.assertEqual(raised(BadNet, LiveNet, thing).part, "net")
            self.assertEqual(raised(BadNet, first_wrong, thing, None).part, "net")
            self.assertEqual(raised(BadNet, replayed, thing, None).part, "net")


class Undo(unittest.TestCase):
    def test_of_each_deed(self):
        for deed in (("rule", 1, 1, OTHER), ("strike", 1, 0), ("link", (1, 3)), ("cut", (2, 1))):
            one = live(deed, tables={**tables(), 3: []})
            self.assertNotEqual(one.net, net(tables={**tables(), 3: []}))
            one.undo()
            self.assertEqual(state(one), (net(tables={**tables(), 3: []}), []))

    def test_the_last_one_that_stands(self):
        one = live(("cut", (1, 2)), ("cut", (2, 1)), ("strike", 1, 0))
        one.undo()
        self.assertEqual(state(one), (net(links=[]), [("cut", (1, 2)), ("cut", (2, 1))]))
        one.do(("link", (1, 2)))
        one.undo()
        one.undo()
        self.assertEqual(state(one), (net(links=[(2, 1)]), [("cut", (1, 2))]))
        one.undo()
        raised(NothingLeft, one.undo)
        self.assertEqual(state(one), (net(), []))
        one.do(("cut", (1, 2)))
        self.assertEqual(one.log, [("cut", (1, 2))])

    def test_nothing_left(self):
        one = live()
        for _ in range(3):
            raised(NothingLeft, one.undo)
        raised(BadDeed, one.do, ("cut", (1, 3)))
        raised(NothingLeft, one.undo)

    def test_forty_deeds(self):
        one = live()
        for number in range(20):
            one.do(("cut", LINKS[number % 2]))
            one.do(("link", LINKS[number % 2]))
        self.assertEqual(len(one.log), 40)
        for _ in range(40):
            one.undo()
        self.assertEqual(state(one), (net(), []))


class Log(unittest.TestCase):
    def test_a_new_list_each_time(self):
        one = live(("cut", (1, 2)))
        self.assertIsInstance(one.log, list)
        one.log.clear()
        one.log.append(1)
        self.assertEqual(one.log, [("cut", (1, 2))])
        kept = one.log
        one.do(("cut", (2, 1)))
        self.assertEqual(kept, [("cut", (1, 2))])

    def test_a_net_that_was_taken_stays(self):
        one = live()
        before = one.net
        one.do(("cut", (1, 2)))
        self.assertEqual(before, net())


class Copies(unittest.TestCase):
    def test_equal_and_independent(self):
        one = live(("cut", (1, 2)), ("strike", 1, 0))
        other = one.copy()
        self.assertIsInstance(other, LiveNet)
        self.assertEqual(one, other)
        other.undo()
        self.assertNotEqual(one, other)
        self.assertEqual(len(one.log), 2)
        one.undo()
        self.assertEqual(one, other)
        other.undo()
        raised(NothingLeft, other.undo)
        self.assertEqual(one.log, [("cut", (1, 2))])
        one.do(("link", (1, 2)))
        self.assertEqual(state(other), (net(), []))

    def test_it_is_in_no_block(self):
        one = live(("cut", (1, 2)))
        try:
            with one:
                one.do(("cut", (2, 1)))
                other = one.copy()
                raise Stop
        except Stop:
            pass
        self.assertEqual(one.log, [("cut", (1, 2))])
        self.assertEqual(other.log, [("cut", (1, 2)), ("cut", (2, 1))])
        try:
            with one:
                other = one.copy()
                with other:
                    other.undo()
                other.do(("strike", 1, 0))
                raise Stop
        except Stop:
            pass
        self.assertEqual(other.log, [("strike", 1, 0)])

    def test_equality_by_nets_and_logs(self):
        self.assertEqual(live(), live())
        self.assertNotEqual(live(), live(("cut", (1, 2))))
        self.assertNotEqual(live(("cut", (1, 2)), ("link", (1, 2))), live())
        self.assertNotEqual(live(("cut", (1, 2))), LiveNet(net(links=[(2, 1)])))
        self.assertNotEqual(live(("cut", (1, 2))), live(("cut", (1, 2)), fields=["at", "to", "b"]))
        self.assertNotEqual(live(("cut", (1, 2))), live(("cut", (1, 2)), links=[(1, 2)]))
        self.assertEqual(live(("cut", (1, 2)), ("cut", (2, 1))).net, live(("cut", (2, 1)), ("cut", (1, 2))).net)
        self.assertNotEqual(live(("cut", (1, 2)), ("cut", (2, 1))), live(("cut", (2, 1)), ("cut", (1, 2))))
        other = live(("cut", (1, 2)))
        other.undo()
        self.assertTrue(other == live())
        self.assertFalse(other != live())

    def test_no_value_of_another_kind(self):
        for thing in odd_values() + [net(), [], (net(), [])]:
            self.assertFalse(live() == thing)
            self.assertFalse(thing == live())
            self.assertTrue(live() != thing)

    def test_it_cannot_be_iterated_over(self):
        for work in (iter, list, len, dict, sorted):
            with self.assertRaises(TypeError):
                work(live())
        with self.assertRaises(TypeError):
            _ = 1 in live()


class Blocks(unittest.TestCase):
    def test_left_without_an_exception(self):
        one = live(("cut", (1, 2)))
        with one as same:
            self.assertIs(same, one)
            same.do(("cut", (2, 1)))
        self.assertEqual(one.log, [("cut", (1, 2)), ("cut", (2, 1))])
        one.undo()
        one.undo()
        self.assertEqual(state(one), (net(), []))

    def test_left_by_an_exception(self):
        one = live(("cut", (1, 2)))
        before = state(one)
        for kind in (Stop, ValueError, KeyboardInterrupt, BadDeed, GeneratorExit):
            error = kind("x")
            with self.assertRaises(kind) as caught:
                with one as same:
                    same.do(("cut", (2, 1)))
                    same.do(("strike", 1, 0))
                    raise error
            self.assertIs(caught.exception, error)
            self.assertEqual(state(one), before)
        one.undo()
        self.assertEqual(state(one), (net(), []))

    def test_errors_of_deeds_leave_blocks_too(self):
        one = live()
        with self.assertRaises(BadDeed):
            with one:
                one.do(("cut", (1, 2)))
                one.do(("cut", (1, 2)))
        self.assertEqual(state(one), (net(), []))
        with one:
            one.do(("cut", (1, 2)))
            raised(BadDeed, one.do, ("cut", (1, 2)))
        self.assertEqual(one.log, [("cut", (1, 2))])

    def test_an_undo_of_what_was_done_ahead_of_the_block(self):
        one = live(("cut", (1, 2)), ("cut", (2, 1)))
        before = state(one)
        try:
            with one:
                one.undo()
                one.undo()
                raised(NothingLeft, one.undo)
                self.assertEqual(state(one), (net(), []))
                one.do(("strike", 1, 0))
                raise Stop
        except Stop:
            pass
        self.assertEqual(state(one), before)
        one.undo()
        self.assertEqual(state(one), (net(links=[(2, 1)]), [("cut", (1, 2))]))
        with one:
            one.undo()
        self.assertEqual(state(one), (net(), []))
        raised(NothingLeft, one.undo)

    def test_nested_blocks(self):
        one = live()
        with one:
            one.do(("cut", (1, 2)))
            try:
                with one as same:
                    same.undo()
                    same.do(("cut", (2, 1)))
                    with one:
                        one.do(("strike", 1, 0))
                    self.assertEqual(one.log, [("cut", (2, 1)), ("strike", 1, 0)])
                    raise Stop
            except Stop:
                pass
            self.assertEqual(state(one), (net(links=[(2, 1)]), [("cut", (1, 2))]))
            one.do(("strike", 1, 1))
        self.assertEqual(one.log, [("cut", (1, 2)), ("strike", 1, 1)])
        try:
            with one:
                one.undo()
                with one:
                    one.undo()
                    raise Stop
        except Stop:
            pass
        self.assertEqual(one.log, [("cut", (1, 2)), ("strike", 1, 1)])

    def test_tried(self):
        one = live(("cut", (1, 2)))
        self.assertEqual(one.tried(lambda same: (same is one, same.log)), (True, [("cut", (1, 2))]))
        self.assertIsNone(one.tried(lambda same: same.do(("cut", (2, 1)))))
        self.assertEqual(one.log, [("cut", (1, 2)), ("cut", (2, 1))])

        def stopped(same):
            same.undo()
            same.undo()
            raise Stop

        with self.assertRaises(Stop):
            one.tried(stopped)
        self.assertEqual(one.log, [("cut", (1, 2)), ("cut", (2, 1))])
        with self.assertRaises(NothingLeft):
            one.tried(lambda same: [same.undo() for _ in range(3)])
        self.assertEqual(one.log, [("cut", (1, 2)), ("cut", (2, 1))])
        self.assertEqual(one.tried(lambda same: same.tried(lambda again: again.net)), net(links=[]))


class Journals(unittest.TestCase):
    def test_right_ones(self):
        for journal, wanted in (
                ([], live()), ((), live()), ([("cut", (1, 2))], live(("cut", (1, 2)))),
                ([("cut", (1, 2)), UNDO], live()),
                ((("cut", (1, 2)), UNDO, ("strike", 1, 0), ("link", (1, 3))),
                 live(("strike", 1, 0), ("link", (1, 3)), tables={
                    **tables(), 3: []}))):
            start = net(tables={**tables(), 3: []}) if len(journal) == 4 else net()
            self.assertIsNone(first_wrong(start, journal))
            found = replayed(start, journal)
            self.assertIsInstance(found, LiveNet)
            self.assertEqual(found, wanted)

    def test_wrong_ones(self):
        cut, link = ("cut", (1, 2)), ("link", (1, 2))
        for journal, at_index in (
                ([UNDO], 0), ([cut, UNDO, UNDO], 2), ([cut, cut], 1), ([link], 0), ([cut, link, link, cut], 2),
                ([cut, UNDO, cut, cut, None], 3), ([cut, ["undo"]], 1), ([cut, ("undo", 1)], 1), ([cut, "undo"], 1),
                ([None], 0), ([[cut]], 0), ([cut, link, ("strike", 1, 0), ("strike", 1, 1)], 3), ((cut, ()), 1),
                (UNDO, 0),
                (cut, 0), ([cut, ["cut", (2, 1)]], 1), ([("rule", 1, 2, None), UNDO, UNDO], 0)):
            with self.subTest(journal):
                self.assertEqual(first_wrong(net(), journal), at_index)
                self.assertEqual(raised(BadJournal, replayed, net(), journal).at, at_index)

    def test_no_lists(self):
        for thing in odd_values() + [{0: ("cut", (1, 2))}, {}, "", "undo", None, net(), live()]:
            if thing not in ((), []):
                with self.subTest(thing):
                    self.assertEqual(first_wrong(net(), thing), 0)
                    self.assertEqual(raised(BadJournal, replayed, net(), thing).at, 0)

    def test_every_wrong_deed(self):
        start = net(tables={**tables(), 3: []})
        for deed in BAD_DEEDS:
            if deed != UNDO:
                with self.subTest(deed):
                    self.assertEqual(first_wrong(start, [("cut", (2, 1)), ("link", (2, 1)), deed, None]), 2)

    def test_the_journal_and_the_net_stay(self):
        start, journal = net(), [("cut", (1, 2)), UNDO, ("strike", 1, 0), ("cut", (1, 2)), None]
        kept = copy.deepcopy(journal[:4])
        self.assertEqual(first_wrong(start, journal), 4)
        found = replayed(start, journal[:4])
        self.assertEqual((journal[:4], start), (kept, net()))
        journal.clear()
        self.assertEqual(found.log, [("strike", 1, 0), ("cut", (1, 2))])
        self.assertEqual(start, net())

    def test_the_log_replayed_is_the_live_net(self):
        one = live(("cut", (1, 2)), ("strike", 1, 0), ("rule", 2, 0, OTHER))
        self.assertEqual(replayed(net(), one.log), one)
        self.assertEqual(replayed(journal=one.log, net=net()), one)
        self.assertIsNone(first_wrong(journal=one.log, net=net()))


def a_deed(chance, one):
    """A deed that often fits the net."""
    switches = list(one.switches)
    switch = chance.choice(switches + [chance.randrange(10)])
    many = len(one[switch]) if switch in switches else 2
    word = chance.choice(("rule", "strike", "link", "cut"))
    if word == "rule":
        return (word, switch, chance.randrange(many + 2), a_rule(chance, list(one.fields), switches, switches, "at"))
    if word == "strike":
        return (word, switch, chance.randrange(many + 1))
    return (word, tuple(chance.choice(switches + [11]) for _ in range(2)))


def parts_after(one, deed):
    """The parts of the net after the deed, put together by hand; None if there is no such net."""
    tables_too, links = {switch: list(one[switch]) for switch in one.switches}, list(one.links)
    word, rest = deed[0], deed[1:]
    if word in ("rule", "strike"):
        table = tables_too.get(rest[0])
        if table is None or rest[1] > len(table) - (word == "strike"):
            return None
        tables_too[rest[0]] = table[:rest[1]] + list(rest[2:]) + table[rest[1] + (word == "strike"):]
    elif word == "link":
        links.append(rest[0])
    elif rest[0] not in links:
        return None
    else:
        links = [pair for pair in links if pair != rest[0]]
    try:
        return Net(one.fields, one.switch_field, tables_too, links)
    except WayError:
        return None


class ByChance(unittest.TestCase):
    def test_whatever_was_done_undone_or_refused(self):
        chance = random.Random(910)
        counts = dict.fromkeys(("done", "refused", "undone", "nothing", "left"), 0)
        for _ in range(60):
            plain = chance.choice((a_plain_net, a_linked_net))(chance)
            one = LiveNet(plain.net())
            told = [(plain.net(), None)]
            self.act(chance, one, told, 0, counts)
            journal = [deed for _, deed in told[1:]]
            self.assertEqual(replayed(plain.net(), journal), one)
        self.assertGreater(min(counts.values()), 20)

    def act(self, chance, one, told, depth, counts):
        """Does this and that, with what is expected then beside it: the nets, each with the deed that led to it."""
        for _ in range(chance.randrange(4, 12)):
            kind = chance.random()
            if kind < 0.25:
                if len(told) == 1:
                    raised(NothingLeft, one.undo)
                    counts["nothing"] += 1
                else:
                    told.pop()
                    one.undo()
                    counts["undone"] += 1
            elif kind < 0.4 and depth < 3:
                self.act_in_a_block(chance, one, told, depth, counts)
            else:
                deed = a_deed(chance, told[-1][0])
                after = parts_after(told[-1][0], deed)
                if after is None:
                    self.assertEqual(raised(BadDeed, one.do, deed).deed, deed)
                    counts["refused"] += 1
                else:
                    one.do(deed)
                    told.append((after, deed))
                    counts["done"] += 1
            self.assertEqual(state(one), (told[-1][0], [deed for _, deed in told[1:]]))

    def act_in_a_block(self, chance, one, told, depth, counts):
        before = list(told)
        try:
            with one as same:
                self.act(chance, same, told, depth + 1, counts)
                if chance.random() < 0.5:
                    raise Stop
        except Stop:
            told[:] = before
            counts["left"] += 1


class Combinations(unittest.TestCase):
    def test_all_links_that_may_come(self):
        for pair in itertools.product(range(5), repeat=2):
            one = live(tables={1: [], 2: [], 3: []}, links=[(1, 2), (2, 3)])
            if pair in ((1, 3), (2, 1), (3, 1), (3, 2)):
                one.do(("link", pair))
                self.assertIn(pair, one.net.links)
            else:
                raised(BadDeed, one.do, ("link", pair))
            one = live(tables={1: [], 2: [], 3: []}, links=[(1, 2), (2, 3)])
            if pair in ((1, 2), (2, 3)):
                one.do(("cut", pair))
                self.assertNotIn(pair, one.net.links)
            else:
                raised(BadDeed, one.do, ("cut", pair))


if __name__ == "__main__":
    unittest.main()
