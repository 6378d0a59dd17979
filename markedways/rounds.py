"""What ways end with, how many marks they have, and rounds that make them endless."""

from markedways.packets import is_count, is_packet, need_packet, samples, spares
from markedways.programs import Program, joint_numbers, need_fields, need_program, need_test, satisfies, satisfying
from markedways.ways import courses_from, slots_in, ways_on


def need_program_and_test(program, test, part):
    """The errors of a Program and a Program of a test, but for that of too many numbers."""
    need_program(program, "program")
    need_test(test, part)
    need_fields(program.fields, test)


def under_one(word, trees, without):
    """The tree that has these trees under the word; the last argument is that of none of them."""
    if len(trees) == 0:
        return without
    return trees[0] if len(trees) == 1 else (word, *trees)


def one_of(field, numbers, named):
    """The test that the field has one of these numbers, its spare standing for all that are not named."""
    if all([number in named for number in numbers]):
        return under_one("choice", [("is", field, number) for number in numbers], ("drop",))
    others = [("is", field, number) for number in named if number not in numbers]
    return ("pass",) if len(others) == 0 else ("not", under_one("choice", others, ("drop",)))


def gate_tree(found, named, good):
    """The test that just the good ones of the samples satisfy, found being the dict of the spares.

    The numbers of the first field that go with the same rest of the sample are tested together:
    with eight numbers and three fields, there are at most 1100 trees in 7 levels.
    """
    if len(found) == 0:
        return ("pass",) if len(good) > 0 else ("drop",)
    field = list(found)[0]
    inner = {name: found[name] for name in found if name != field}
    groups = {}
    for number in [*named, found[field]]:
        rests = tuple([packet[1:] for packet in good if packet[0] == number])
        groups.setdefault(rests, []).append(number)
    parts = []
    for rests, numbers in groups.items():
        both = [one_of(field, numbers, named), gate_tree(inner, named, list(rests))]
        if ("drop",) not in both:
            parts.append(under_one("row", [tree for tree in both if tree != ("pass",)], ("pass",)))
    return under_one("choice", parts, ("drop",))


def gate(fields, named, good):
    """The Program of the test that just the good ones of the samples satisfy, and what is like them."""
    return Program(fields, gate_tree(spares(fields, named), named, good))


def weakest_gate(program, bad):
    """The Program of a test: satisfied by just the packets no way of which ends with one that satisfies bad."""
    need_program_and_test(program, bad, "bad")
    named = joint_numbers([program, bad])
    starts = samples(program.fields, named)
    courses = courses_from(program, starts)
    coming = courses.coming_to(satisfying(courses.ground, bad.tree))[0]
    good = [packet for packet in starts if coming & courses.ground.of_packet(packet) == 0]
    return gate(program.fields, named, good)


def reached(courses, starts):
    """Place by place, the crowd of those that are come to from the crowd of the starts at the place 0."""
    found = [0 for _ in courses.outlooks]
    found[0] = starts
    waiting = [(0, slot) for slot in slots_in(starts)]
    while len(waiting) > 0:
        place, slot = waiting.pop()
        sight = courses.sight(slot, (place,))
        for mark in range(1, len(sight)):
            fresh = sight[mark] & ~found[mark]
            found[mark] = found[mark] | fresh
            waiting.extend([(mark, written) for written in slots_in(fresh)])
    return found


class Rounds:
    """The greatest number of marks of the ways of a crowd, and, place by place, who has rounds ahead."""

    def __init__(self, courses, crowd):
        self.courses = courses
        self.most = -1
        self.endless = reached(courses, crowd & courses.live[0])
        # Those that have so many steps ahead, one behind the other, are left each time.
        while any(self.endless):
            onward = courses.leading_to(self.endless)
            left = [crowd & more for crowd, more in zip(self.endless, onward)]
            if left == self.endless:
                self.most = None
                break
            self.endless = left
            self.most += 1

    def endless_start(self):
        """The least slot at the place 0 with a round ahead."""
        return slots_in(self.endless[0])[0]

    def to_round(self):
        """The pairs from the place 0 to a round, and those of the round; pairs of a place and a slot."""
        pair = (0, self.endless_start())
        path = []
        while pair not in path:
            path.append(pair)
            pair = self._first_step(pair, self.endless)
        at = path.index(pair)
        return path[1:at + 1], [*path[at + 1:], pair]

    def to_end(self, pair):
        """The pairs from this one, not counted, to one at which an end is come to with the fewest marks."""
        left = 0
        while not self._ends_in(pair, left):
            left += 1
        path = []
        while left > 0:
            left -= 1
            pair = self._first_step(pair, self.courses.exact[left])
            path.append(pair)
        return path

    def _ends_in(self, pair, left):
        self.courses.look(left)
        return self.courses.can_end((pair[1], (pair[0],)), left)

    def _first_step(self, pair, crowds):
        """The least step from the pair into these crowds."""
        sight = self.courses.sight(pair[1], (pair[0],))
        found = [sight[mark] & crowds[mark] for mark in range(1, len(sight))]
        least = [index for index, crowd in enumerate(found) if crowd != 0][0]
        return (least + 1, slots_in(found[least])[0])

    def told(self, pairs):
        """The tuple of the pairs with their packets instead of the slots."""
        return tuple([(place, self.courses.ground.members[slot]) for place, slot in pairs])


def rounds_of(program, source):
    """The Rounds of the packets that satisfy source."""
    need_program_and_test(program, source, "source")
    courses = courses_from(program, samples(program.fields, joint_numbers([program, source])))
    return Rounds(courses, satisfying(courses.ground, source.tree))


def most_marks(program, source):
    """The greatest number of marks of a way of a packet that satisfies source.

    -1 if there is no such way, None if there is no greatest number.
    """
    return rounds_of(program, source).most


def ring(program, source):
    """A ring of the program for the test source, None if there is none."""
    rounds = rounds_of(program, source)
    if rounds.most is not None:
        return None
    before, turn = rounds.to_round()
    behind = rounds.to_end(turn[-1])
    place, slot = (turn + behind)[-1]
    end = rounds.courses.last_packets((slot, (place,)))[0]
    packet = rounds.courses.ground.members[rounds.endless_start()]
    return (packet, rounds.told(before), rounds.told(turn), rounds.told(behind), end)


def are_pairs(fields, thing):
    """Whether any value is a tuple of pairs of a number from 0 on and a packet."""
    if not isinstance(thing, tuple):
        return False
    if not all([isinstance(pair, tuple) and len(pair) == 2 for pair in thing]):
        return False
    return all([is_count(place) and is_packet(fields, packet) for place, packet in thing])


def goes_to(program, packet, pairs, end):
    """Whether the pairs are steps, one from the other, from the place 0 on, with this end at the last one."""
    courses = courses_from(program, [packet])
    slots = courses.ground.slots
    sight = courses.sight(slots[packet], (0,))
    for place, written in pairs:
        slot = slots.get(written, -1)
        if place not in courses.fan(sight).get(slot, ()):
            return False
        sight = courses.sight(slot, (place,))
    return end in courses.ground.packets_in(sight[0])


def is_ring(program, source, thing):
    """Whether any value is a ring of the program for the test source."""
    need_program_and_test(program, source, "source")
    joint_numbers([program, source])
    if not isinstance(thing, tuple) or len(thing) != 5:
        return False
    packet, before, turn, behind, end = thing
    fields = program.fields
    if not is_packet(fields, packet) or not is_packet(fields, end):
        return False
    if not all([are_pairs(fields, pairs) for pairs in (before, turn, behind)]):
        return False
    if len(before) == 0 or len(turn) == 0 or before[-1] != turn[-1]:
        return False
    return satisfies(fields, source.tree, packet) and goes_to(program, packet, before + turn + behind, end)


def all_ways(program, packet):
    """All ways of the packet, in the order of ways, each as soon as it is found."""
    need_program(program, "program")
    need_packet(program.fields, packet)
    courses = courses_from(program, [packet])
    start = (courses.ground.slots[packet], (0,))
    most = Rounds(courses, courses.ground.of_packet(packet)).most
    many = 0
    while most is None or many <= most:
        courses.look(many)
        if courses.can_end(start, many):
            yield from ways_on(courses, start, many)
        many += 1
