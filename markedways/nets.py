"""Nets of switches with tables of rules, their hops and rides, and the programs that make the same rides."""

from markedways.errors import BadLot, BadNet, BadRule
from markedways.packets import MOST_NUMBERS, ascending_fields, is_count, is_list, need_most, need_packet
from markedways.programs import (Program, TEST_WORDS, all_trees, allow, has_fields, is_made_of, is_tree,
                                 named_numbers, satisfies)
from markedways.rounds import under_one
from markedways.ways import MOST_TOLD, moved

MOST_SWITCHES = 4
GREATEST_SWITCH = 9
MOST_RULES = 4
MOST_TEST_TREES = 12
MOST_TEST_LEVELS = 4
MOST_GROUPS = 2
MOST_ACTIONS = 2
MOST_STEPS = 3
PASS = ("pass",)
DROP = ("drop",)


def is_step(fields, thing):
    """Whether any value is a set or a take of these fields."""
    return is_tree(thing) and thing[0] in ("set", "take") and has_fields(fields, [thing])


def is_action(fields, thing):
    """Whether any value is an action of these fields."""
    return isinstance(thing, tuple) and len(thing) <= MOST_STEPS and all([is_step(fields, step) for step in thing])


def is_group(fields, thing):
    """Whether any value is a group of actions of these fields."""
    if not isinstance(thing, tuple) or not 1 <= len(thing) <= MOST_ACTIONS:
        return False
    return all([is_action(fields, action) for action in thing])


def is_rule(fields, thing):
    """Whether any value is a rule of these fields."""
    if not isinstance(thing, tuple) or len(thing) != 2:
        return False
    test, groups = thing
    if not is_made_of(test, TEST_WORDS, MOST_TEST_LEVELS):
        return False
    trees = all_trees(test)
    if len(trees) > MOST_TEST_TREES or not has_fields(fields, trees):
        return False
    if not isinstance(groups, tuple) or len(groups) > MOST_GROUPS:
        return False
    return all([is_group(fields, group) for group in groups])


def are_tables(thing):
    """Whether any value is a dict from 1 to 4 numbers from 0 to 9 to lists of at most 4 items."""
    if not isinstance(thing, dict) or not 1 <= len(thing) <= MOST_SWITCHES:
        return False
    if not all([is_count(switch) and switch <= GREATEST_SWITCH for switch in thing]):
        return False
    return all([is_list(thing[switch]) and len(thing[switch]) <= MOST_RULES for switch in thing])


def is_pair(thing):
    """Whether any value is a pair of numbers from 0 on."""
    return isinstance(thing, tuple) and len(thing) == 2 and all([is_count(number) for number in thing])


def are_links(switches, thing):
    """Whether any value is a list of different pairs of different switches."""
    if not is_list(thing) or not all([is_pair(pair) for pair in thing]):
        return False
    if not all([pair[0] in switches and pair[1] in switches and pair[0] != pair[1] for pair in thing]):
        return False
    return len(set(thing)) == len(thing)


def trees_of(rule):
    """All trees that stand in a rule."""
    test, groups = rule
    return all_trees(test) + [step for group in groups for action in group for step in action]


def net_numbers(net):
    """The numbers that the rules of the net name and its switches, ascending."""
    named = named_numbers([tree for switch in net.switches for rule in net[switch] for tree in trees_of(rule)])
    return sorted(set([*named, *net.switches]))


class Net:
    """Fields, one of which is that of the switches, a table of rules for each switch, and links."""

    def __init__(self, fields, at, tables, links):
        self._fields = ascending_fields(fields)
        if at not in self._fields:
            raise BadNet("at")
        self._at = at
        if not are_tables(tables):
            raise BadNet("tables")
        self._tables = {switch: tuple(tables[switch]) for switch in sorted(tables)}
        for switch, rules in self._tables.items():
            for index, rule in enumerate(rules):
                if not is_rule(self._fields, rule):
                    raise BadRule((switch, index))
        if not are_links(list(self._tables), links):
            raise BadNet("links")
        self._links = tuple(sorted(links))
        allow(len(net_numbers(self)), "numbers", MOST_NUMBERS)

    @property
    def fields(self):
        """The fields, an ascending tuple."""
        return self._fields

    @property
    def switches(self):
        """The switches, an ascending tuple."""
        return tuple(self._tables)

    @property
    def links(self):
        """The links, an ascending tuple of pairs."""
        return self._links

    @property
    def switch_field(self):
        """The field that tells at which switch a packet is."""
        return self._at

    def __getitem__(self, switch):
        """The rules of the switch, a tuple."""
        if not is_count(switch) or switch not in self._tables:
            raise BadNet("switch")
        return self._tables[switch]

    def __iter__(self):
        raise TypeError("a net cannot be iterated over")

    def __eq__(self, other):
        return (isinstance(other, Net) and self._fields == other._fields and self._at == other._at
                and self._tables == other._tables and self._links == other._links)

    def hop(self, packet):
        """The ascending list of the packets behind a hop, each once."""
        need_packet(self._fields, packet)
        return sorted(set(taken(outcomes(self, packet), self._links)))

    def rides(self, packet, most):
        """The list of the rides with at most so many hops, in the order of ways."""
        need_packet(self._fields, packet)
        need_most(most, MOST_TOLD)
        found = [(packet,)]
        courses = [(packet,)]
        for _ in range(most):
            courses = [course + (target,) for course in courses for target in self.hop(course[-1])]
            found.extend([course[1:] + course[-1:] for course in courses])
        return found

    def program(self):
        """A Program with one mark in a loop that makes just the rides."""
        return Program(self._fields, ("loop", ("row", hop_tree(self), ("mark",))))

    def without(self, lot):
        """The net without the links of the lot."""
        if not isinstance(lot, tuple) or not are_links(self.switches, lot) or list(lot) != sorted(lot):
            raise BadLot("no ascending tuple of different links")
        if not all([pair in self._links for pair in lot]):
            raise BadLot("a pair that is no link")
        kept = [pair for pair in self._links if pair not in lot]
        return Net(self._fields, self._at, self._tables, kept)


def outcomes(net, packet):
    """The groups of the rule that fits the packet, each a list of what its actions lead to.

    That is a pair: the pair of switches that must be a link, and the packet behind the action.
    """
    at = net.fields.index(net.switch_field)
    switch = packet[at]
    rules = net[switch] if switch in net.switches else ()
    for test, groups in rules:
        if satisfies(net.fields, test, packet):
            targets = [[acted(net.fields, action, packet) for action in group] for group in groups]
            return [[((switch, target[at]), target) for target in group] for group in targets]
    return []


def acted(fields, action, packet):
    """The packet to which the steps of the action lead."""
    for step in action:
        packet = moved(fields, step, packet)
    return packet


def taken(groups, links):
    """What the first group with an open action gives, these pairs being the links."""
    for group in groups:
        found = [target for pair, target in group if pair in links]
        if len(found) > 0:
            return found
    return []


def hop_tree(net):
    """The tree the ends of which are the packets behind a hop."""
    parts = []
    for switch in net.switches:
        parts.append(("row", ("is", net.switch_field, switch), table_tree(net, switch)))
    return under_one("choice", parts, DROP)


def table_tree(net, switch):
    """What the table makes of packets at this switch: the first rule that fits is taken."""
    parts = []
    earlier = []
    for test, groups in net[switch]:
        parts.append(("row", *earlier, test, groups_tree(net, switch, groups)))
        earlier.append(("not", test))
    return under_one("choice", parts, DROP)


def groups_tree(net, switch, groups):
    """What the groups make of packets at this switch: the first one with an open action is taken."""
    parts = []
    closed = []
    for group in groups:
        tests = [open_test(net, switch, action) for action in group]
        for test, action in zip(tests, group):
            if test != DROP:
                parts.append(under_one("row", [*closed, test, *action], PASS))
        closed.extend([("not", test) for test in tests if test != DROP])
    return under_one("choice", parts, DROP)


def open_test(net, switch, action):
    """The test that is satisfied by just those packets at this switch for which the action is open."""
    came = origin(net.switch_field, action)
    linked = [pair[1] for pair in net.links if pair[0] == switch]
    if came == net.switch_field:
        return DROP
    if isinstance(came, str):
        return under_one("choice", [("is", came, target) for target in linked], DROP)
    return PASS if came in linked else DROP


def origin(field, action):
    """What the field has behind the action: a number, or, told by its name, what that field had ahead of it."""
    for word, target, worth in reversed(list(action)):
        if target == field and word == "set":
            return worth
        if target == field:
            field = worth
    return field
