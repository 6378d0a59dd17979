"""The ways of packets, and what can come next behind each place of a program."""

from markedways.errors import NoPlace
from markedways.packets import is_count, is_packet, need_most, need_packet
from markedways.programs import all_trees, inner_trees, need_program, satisfying

MOST_TOLD = 6


def slots_in(crowd):
    """The ascending list of the slots that a crowd has."""
    slots = []
    while crowd != 0:
        lowest = crowd & -crowd
        slots.append(lowest.bit_length() - 1)
        crowd = crowd ^ lowest
    return slots


def crowd_where(rows):
    """The crowd of the slots at which the list has something other than 0."""
    return sum([1 << slot for slot, row in enumerate(rows) if row != 0])


def gathered(rows, slots):
    """All that the rows of these slots have."""
    found = 0
    for slot in slots:
        found = found | rows[slot]
    return found


def moved(fields, move, packet):
    """The packet behind a set or a take."""
    word, field, worth = move
    number = packet[fields.index(worth)] if word == "take" else worth
    at = fields.index(field)
    return packet[:at] + (number,) + packet[at + 1:]


def all_moved(fields, moves, starts):
    """The ascending list of the packets that any of these moves lead to, the starts themselves counted."""
    known = {packet: True for packet in starts}
    waiting = list(starts)
    while len(waiting) > 0:
        packet = waiting.pop()
        for move in moves:
            target = moved(fields, move, packet)
            if target not in known:
                known[target] = True
                waiting.append(target)
    return sorted(known)


class Ground:
    """All packets that some packets may come to by what trees set and take.

    The slot of a packet is its index among them, ascending. A crowd is a set of them, as an
    integer: bit k is set if it has the packet with the slot k.
    """

    def __init__(self, fields, trees, starts):
        moves = sorted(set([tree for tree in trees if tree[0] in ("set", "take")]))
        self.names = fields
        self.members = all_moved(fields, moves, starts)
        self.slots = {packet: slot for slot, packet in enumerate(self.members)}
        self.targets = {move: [self.slots[moved(fields, move, packet)] for packet in self.members] for move in moves}
        self.alone = [1 << slot for slot in range(len(self.members))]
        self.full = (1 << len(self.members)) - 1
        self.numbered = {}
        self.listed = {}

    def with_number(self, field, number):
        """The crowd of the packets with this number in the field."""
        key = (field, number)
        if key not in self.numbered:
            at = self.names.index(field)
            self.numbered[key] = sum([1 << slot for slot, packet in enumerate(self.members) if packet[at] == number])
        return self.numbered[key]

    def of_packet(self, packet):
        """The crowd of this packet alone."""
        return self.alone[self.slots[packet]]

    def inside(self, crowd):
        """The list that tells, slot by slot, whether the crowd has it."""
        if crowd not in self.listed:
            self.listed[crowd] = [(crowd >> slot) & 1 == 1 for slot in range(len(self.members))]
        return self.listed[crowd]

    def packets_in(self, crowd):
        """The ascending list of the packets of a crowd."""
        return [self.members[slot] for slot in slots_in(crowd)]


# An outlook tells what is ahead, for each packet of a ground: a dict from 0 to the list that
# has, slot by slot, the crowd of the ends that are come to without marks, and from places
# of marks to the list of the crowds that are written down there first. Left out is what has nothing.


def joined(one, other):
    """The outlook of all that is in one of both."""
    found = {key: other[key] for key in other if key not in one}
    for key in one:
        found[key] = [row | more for row, more in zip(one[key], other[key])] if key in other else one[key]
    return found


def narrowed(outlook, inside):
    """The outlook for some packets alone; the list tells, slot by slot, whether it is one of them."""
    found = {}
    for key, rows in outlook.items():
        kept = [row if is_inside else 0 for row, is_inside in zip(rows, inside)]
        if any(kept):
            found[key] = kept
    return found


def closures(rows):
    """For each slot, all that its row leads to, from row to row, the slot itself counted."""
    known = []
    for start in range(len(rows)):
        found = 1 << start
        waiting = rows[start] & ~found
        while waiting != 0:
            # The lowest slots come first: what they lead to is known already.
            lowest = waiting & -waiting
            slot = lowest.bit_length() - 1
            if slot < start:
                found = found | known[slot]
            else:
                found = found | lowest
                waiting = waiting | rows[slot]
            waiting = waiting & ~found
        known.append(found)
    return known


class Stretch:
    """A tree on a ground, or a tree within it, with the places of its marks."""

    def __init__(self, tree, ground, place):
        """The place is that of the last mark ahead of the tree."""
        self.shape = tree
        self.ground = ground
        self.last = place + 1 if tree[0] == "mark" else place
        self.inner = []
        parts = () if tree[0] == "not" else inner_trees(tree)
        for part in parts:
            self.inner.append(Stretch(part, ground, self.last))
            self.last = self.inner[-1].last
        self.has_marks = self.last > place

    def ahead(self, outlook):
        """The outlook ahead of the tree, this one being that behind it."""
        word = self.shape[0]
        if word == "row":
            for part in reversed(list(self.inner)):
                outlook = part.ahead(outlook)
            return outlook
        if word == "choice":
            found = {}
            for part in self.inner:
                found = joined(found, part.ahead(outlook))
            return found
        if word == "loop":
            return self._ahead_of_loop(outlook)
        if word == "mark":
            return {self.last: self.ground.alone}
        if word in ("set", "take"):
            targets = self.ground.targets[self.shape]
            return {key: [rows[slot] for slot in targets] for key, rows in outlook.items()}
        return narrowed(outlook, self.ground.inside(satisfying(self.ground, self.shape)))

    def _ahead_of_loop(self, outlook):
        """From wherever rounds without marks lead to, the loop ends, or a round comes to its first mark."""
        once = self.inner[0].ahead({0: self.ground.alone})
        rounds = closures(once[0]) if 0 in once else self.ground.alone
        next_ones = joined(outlook, {key: once[key] for key in once if key != 0})
        slots = {crowd: slots_in(crowd) for crowd in rounds}
        found = {}
        for key, rows in next_ones.items():
            total = {crowd: gathered(rows, slots[crowd]) for crowd in slots}
            found[key] = [total[crowd] for crowd in rounds]
        return found

    def note(self, outlook, noted):
        """Notes the outlook behind each mark by its place, this one being that behind the tree."""
        word = self.shape[0]
        if word == "mark":
            noted[self.last] = outlook
        if word == "loop":
            outlook = self.ahead(outlook)
        for part in reversed(list(self.inner)):
            if part.has_marks:
                part.note(outlook, noted)
            if word == "row":
                outlook = part.ahead(outlook)


class Courses:
    """What goes on behind each place of a program, for each packet of a ground."""

    def __init__(self, program, ground):
        whole = Stretch(program.tree, ground, 0)
        end = {0: ground.alone}
        noted = {0: whole.ahead(end)}
        whole.note(end, noted)
        self.ground = ground
        self.last = program.marks
        self.outlooks = [noted[place] for place in range(self.last + 1)]
        # What is written down where no end is come to is no entry of a course.
        self.live = self.coming_to(ground.full)
        self.outlooks = [self._with_live(outlook) for outlook in self.outlooks]
        self.exact = [self.ending_in(ground.full)]
        self.fans = {}

    def _with_live(self, outlook):
        found = {}
        for key, rows in outlook.items():
            found[key] = rows if key == 0 else [row & self.live[key] for row in rows]
        return found

    def ending_in(self, crowd):
        """Place by place, the crowd of those that end within this one without marks."""
        return [crowd_where([row & crowd for row in outlook.get(0, [])]) for outlook in self.outlooks]

    def leading_to(self, crowds):
        """Place by place, the crowd of those with a step into these crowds, told place by place too."""
        found = []
        for outlook in self.outlooks:
            total = 0
            for mark, rows in outlook.items():
                if mark != 0 and crowds[mark] != 0:
                    total = total | crowd_where([row & crowds[mark] for row in rows])
            found.append(total)
        return found

    def coming_to(self, crowd):
        """Place by place, the crowd of those from which courses go on that end within this one."""
        found = self.ending_in(crowd)
        while True:
            wider = [some | more for some, more in zip(found, self.leading_to(found))]
            if wider == found:
                return found
            found = wider

    def sight(self, slot, places):
        """What comes next at any of these places with this packet.

        A tuple of the crowd of the ends and, mark by mark, the crowd of what is written down there.
        """
        found = [0 for _ in range(self.last + 1)]
        for place in places:
            for key, rows in self.outlooks[place].items():
                found[key] = found[key] | rows[slot]
        return tuple(found)

    def fan(self, sight):
        """The dict from the slots that are written down next, ascending, to the places at which they are."""
        if sight not in self.fans:
            found = {}
            for mark in range(1, self.last + 1):
                for slot in slots_in(sight[mark]):
                    found[slot] = found.get(slot, ()) + (mark,)
            self.fans[sight] = {slot: found[slot] for slot in sorted(found)}
        return self.fans[sight]

    def look(self, many):
        """Finds out from where ends are come to by exactly so many marks, and by fewer."""
        while len(self.exact) <= many:
            self.exact.append(self.leading_to(self.exact[-1]))

    def can_end(self, state, left):
        """Whether an end is come to by exactly so many marks; a state is a slot and places."""
        slot, places = state
        return any([(self.exact[left][place] >> slot) & 1 for place in places])

    def last_packets(self, state):
        """The ascending list of the ends at a state."""
        return self.ground.packets_in(self.sight(state[0], state[1])[0])

    def next_states(self, state):
        """The list of the packets that are written down next, ascending, each with the state behind it."""
        fan = self.fan(self.sight(state[0], state[1]))
        return [(self.ground.members[slot], (slot, fan[slot])) for slot in fan]


def courses_from(program, starts):
    """The Courses of the program for these packets and all that they may come to."""
    return Courses(program, Ground(program.fields, all_trees(program.tree), starts))


def ways_on(guide, start, many):
    """The ways with exactly so many marks that go on from a state, ascending.

    The guide is a Courses, or a reader of a machine: it has can_end, last_packets and next_states.
    """
    waiting = [((), start)]
    while len(waiting) > 0:
        written, state = waiting.pop()
        left = many - len(written)
        if left == 0:
            for end in guide.last_packets(state):
                yield written + (end,)
        else:
            for packet, following in reversed(list(guide.next_states(state))):
                if guide.can_end(following, left - 1):
                    waiting.append((written + (packet,), following))


def ways(program, packet, most):
    """The ways with at most so many marks, those with fewer first, of as many ascending."""
    need_program(program, "program")
    need_packet(program.fields, packet)
    need_most(most, MOST_TOLD)
    courses = courses_from(program, [packet])
    courses.look(most)
    return ways_up_to(courses, (courses.ground.slots[packet], (0,)), most)


def ways_up_to(guide, start, most):
    """The ways with at most so many marks that go on from a state, in the order of ways."""
    found = []
    for many in range(most + 1):
        if guide.can_end(start, many):
            found.extend(list(ways_on(guide, start, many)))
    return found


def is_way(program, packet, thing):
    """Whether any value is a way of the packet."""
    need_program(program, "program")
    need_packet(program.fields, packet)
    if not isinstance(thing, tuple) or len(thing) == 0:
        return False
    if not all([is_packet(program.fields, item) for item in thing]):
        return False
    courses = courses_from(program, [packet])
    slots = courses.ground.slots
    sight = courses.sight(slots[packet], (0,))
    for written in thing[:-1]:
        slot = slots.get(written, -1)
        sight = courses.sight(slot, courses.fan(sight).get(slot, ()))
    return thing[-1] in courses.ground.packets_in(sight[0])


def courses_at(program, place, packet):
    """The Courses of the program from this packet on, after the arguments are judged."""
    need_program(program, "program")
    if not is_count(place) or place > program.marks:
        raise NoPlace(place)
    need_packet(program.fields, packet)
    return courses_from(program, [packet])


def steps(program, place, packet):
    """The ascending list of the first entries of the courses that go on at the place with the packet."""
    courses = courses_at(program, place, packet)
    sight = courses.sight(courses.ground.slots[packet], (place,))
    marks = range(1, program.marks + 1)
    return [(mark, written) for mark in marks for written in courses.ground.packets_in(sight[mark])]


def ends(program, place, packet):
    """The ascending list of the ends of the courses without entries that go on there."""
    courses = courses_at(program, place, packet)
    sight = courses.sight(courses.ground.slots[packet], (place,))
    return courses.ground.packets_in(sight[0])
