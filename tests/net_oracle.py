"""Hops, rides and failing links by the words of points 91 and 92, and nets that chance makes."""

import itertools

from markedways.nets import Net
from oracle import a_test, changed, satisfied


class Plain:
    """The parts of a net, as they were passed."""

    def __init__(self, fields, at, tables, links):
        self.told = (fields, at, tables, links)
        self.names = tuple(sorted(fields))
        self.place = self.names.index(at)
        self.tables = tables
        self.links = list(links)

    def net(self):
        return Net(*self.told)

    def failing(self, lot):
        return Plain(*self.told[:3], [pair for pair in self.links if pair not in lot])

    def hop(self, packet):
        """The ascending list of the packets behind a hop."""
        for test, groups in self.tables.get(packet[self.place], ()):
            if satisfied(self.names, test, packet):
                for group in groups:
                    found = set()
                    for action in group:
                        behind = packet
                        for step in action:
                            behind = changed(self.names, step, behind)
                        if (packet[self.place], behind[self.place]) in self.links:
                            found.add(behind)
                    if found:
                        return sorted(found)
                return []
        return []

    def rides(self, packet, most):
        """The rides with at most so many hops, in the order of ways."""
        found, courses = [(packet,)], [[packet]]
        for _ in range(most):
            courses = [course + [behind] for course in courses for behind in self.hop(course[-1])]
            found += [tuple(course[1:]) + (course[-1],) for course in courses]
        return sorted(found, key=lambda way: (len(way), way))

    def reached(self, packet):
        """All packets that rides of the packet end at."""
        known, waiting = {packet}, [packet]
        while waiting:
            for behind in self.hop(waiting.pop()):
                if behind not in known:
                    known.add(behind)
                    waiting.append(behind)
        return known

    def lots(self, most):
        """All lots of at most so many links, by length, then ascending."""
        for many in range(most + 1):
            yield from itertools.combinations(sorted(self.links), many)


def a_step(chance, fields, numbers, switches, at):
    if len(fields) > 1 and chance.random() < 0.3:
        return ("take", *chance.sample(fields, 2))
    if chance.random() < 0.75:
        return ("set", at, chance.choice(switches))
    return ("set", chance.choice(fields), chance.choice(numbers))


def a_rule(chance, fields, numbers, switches, at):
    def action():
        return tuple(a_step(chance, fields, numbers, switches, at) for _ in range(chance.choice((0, 1, 1, 1, 2, 2, 3))))

    def group():
        return tuple(action() for _ in range(chance.choice((1, 2))))

    test = ("pass",) if chance.random() < 0.4 else a_test(chance, fields, numbers, chance.choice((1, 1, 2)))
    return (test, tuple(group() for _ in range(chance.choice((0, 1, 1, 1, 2, 2, 2)))))


def a_plain_net(chance, most_fields=3):
    """The parts of a net with links between most of its switches."""
    fields = ["at", "b", "c"][:chance.choice(range(1, most_fields + 1))]
    switches = chance.sample(range(10), chance.choice((1, 2, 2, 3, 3, 3, 4, 4, 4)))
    numbers = sorted(set(switches) | set(chance.sample(range(10), 2)))
    tables = {switch: [a_rule(chance, fields, numbers, switches,
                              "at") for _ in range(chance.choice((0, 1, 2, 2, 3, 4)))]
              for switch in switches}
    links = [pair for pair in itertools.permutations(switches, 2) if chance.random() < 0.85]
    chance.shuffle(links)
    return Plain(fields, "at", tables, links)


def a_linked_net(chance):
    """The parts of a net with rules that mostly lead on, of two fields."""
    switches = chance.sample(range(10), chance.choice((3, 4, 4)))

    def action():
        steps = [("set", "at", chance.choice(switches))]
        if chance.random() < 0.3:
            steps.insert(chance.randrange(2),
                         chance.choice((("set", "b", chance.choice(switches)), ("take", "b", "at"))))
        return (("take", "at", "b"),) if chance.random() < 0.1 else tuple(steps)

    def rule(test):
        return (test, tuple(tuple(action() for _ in range(chance.choice((1, 2, 2)))) for _ in range(2)))

    tables = {}
    for switch in switches:
        some = [rule(("is", "b", chance.choice(switches))) for _ in range(chance.choice((0, 0, 1)))]
        tables[switch] = some + [rule(("pass",))]
    links = [pair for pair in itertools.permutations(switches, 2) if chance.random() < 0.6]
    return Plain(["at", "b"], "at", tables, links)


def greatest_net(chance):
    """The parts of a net at the limits: four switches, four rules each, two groups, two actions, three steps."""
    fields, switches, numbers = ["at", "b", "c"], [1, 2, 3, 4], list(range(1, 9))

    def test():
        some = [("is", chance.choice(fields), chance.choice(numbers)) for _ in range(7)]
        return ("not", ("row", *some[:2], ("choice", *some[2:6]), ("choice", some[0], some[6])))

    def action():
        steps = [("take", "at", chance.choice("bc")), ("set", "b", chance.choice(numbers)), ("take", "c", "b"),
                 ("set", "at", chance.choice(switches)), ("take", "b", "c"), ("set", "c", chance.choice(switches))]
        return tuple(chance.sample(steps, 3))

    def rule():
        return (test(), ((action(), action()), (action(), action())))

    tables = {switch: [rule() for _ in range(4)] for switch in switches}
    return Plain(fields, "at", tables, list(itertools.permutations(switches, 2)))
