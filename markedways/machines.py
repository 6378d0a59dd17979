"""The least machine of a program for told numbers, and the ways read off it."""

from markedways.errors import BadPacket
from markedways.packets import MOST_NUMBERS, ascending_numbers, is_count, need_most, samples
from markedways.programs import allow, need_program
from markedways.ways import MOST_TOLD, courses_from, ways_up_to


class Standings:
    """The standings of packets and those that they lead on to, numbered as they are met, equal ones perhaps apart.

    With each number go its sight and the list of what it leads to: pairs (slot, number), ascending.
    """

    def __init__(self, courses, slots):
        self.courses = courses
        self.sights = []
        self.leads = []
        self.counts = {}
        self.starts = [self._count(slot, (0,)) for slot in slots]
        at = 0
        while at < len(self.sights):
            fan = courses.fan(self.sights[at])
            self.leads.append([(slot, self._count(slot, fan[slot])) for slot in fan])
            at += 1

    def _count(self, slot, places):
        """The number of the standing, None if it is empty."""
        sight = self.courses.sight(slot, places)
        if not any(sight):
            return None
        if sight not in self.counts:
            self.counts[sight] = len(self.sights)
            self.sights.append(sight)
        return self.counts[sight]

    def kinds(self):
        """The list that has equal numbers for those that are equal standings."""
        kinds = [0 for _ in self.sights]
        many = 0
        while True:
            signs = [self._sign(at, kinds) for at in range(len(self.sights))]
            order = {}
            for sign in signs:
                order.setdefault(sign, len(order))
            if len(order) == many:
                return kinds
            many = len(order)
            kinds = [order[sign] for sign in signs]

    def _sign(self, at, kinds):
        """What one sees of a standing where those that it leads to are known by these kinds alone."""
        return (self.sights[at][0], tuple([(slot, kinds[number]) for slot, number in self.leads[at]]))


def least_machine(program, numbers=()):
    """The least machine for the numbers that the program names and these."""
    need_program(program, "program")
    named = sorted(set(program.numbers + ascending_numbers(numbers)))
    allow(len(named), "numbers", MOST_NUMBERS)
    starts = samples(program.fields, named)
    courses = courses_from(program, starts)
    standings = Standings(courses, [courses.ground.slots[packet] for packet in starts])
    return machine_of(standings, starts)


def machine_of(standings, packets):
    """The machine that has one state for each kind of standing, numbered in the stated order."""
    kinds = standings.kinds()
    # Standings are numbered as they are met, so the first one of its kind tells when the kind is met.
    firsts = {}
    for number, kind in enumerate(kinds):
        firsts.setdefault(kind, number)
    order = {kind: count for count, kind in enumerate(firsts)}
    starts = {}
    for packet, number in zip(packets, standings.starts):
        starts[packet] = None if number is None else order[kinds[number]]
    ground = standings.courses.ground
    states = []
    for number in firsts.values():
        moves = tuple([(ground.members[slot], order[kinds[lead]]) for slot, lead in standings.leads[number]])
        states.append((tuple(ground.packets_in(standings.sights[number][0])), moves))
    return (starts, states)


class Reader:
    """Reads a machine, a state being its number, as far as ways with so many marks go."""

    def __init__(self, states, most):
        self.states = states
        self.endings = [[len(state[0]) > 0 for state in states]]
        for _ in range(most):
            ahead = self.endings[-1]
            self.endings.append([any([ahead[move[1]] for move in state[1]]) for state in states])

    def can_end(self, state, left):
        """Whether an end is come to by exactly so many marks."""
        return self.endings[left][state]

    def last_packets(self, state):
        """The ends at a state, ascending."""
        return self.states[state][0]

    def next_states(self, state):
        """The packets that are written down next, ascending, each with the state behind it."""
        return self.states[state][1]


def machine_ways(machine, packet, most):
    """The ways of a sample with at most so many marks, read off a least machine, in the order of ways."""
    starts, states = machine
    if not isinstance(packet, tuple) or not all([is_count(number) for number in packet]) or packet not in starts:
        raise BadPacket(packet)
    need_most(most, MOST_TOLD)
    start = starts[packet]
    return [] if start is None else ways_up_to(Reader(states, most), start, most)
