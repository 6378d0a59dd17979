"""Whether two programs make the same ways of all packets, and what tells so."""

from markedways.errors import BadWord
from markedways.packets import is_count, is_list, is_packet, samples
from markedways.programs import all_trees, joint_numbers, need_fields, need_program
from markedways.ways import Courses, Ground, courses_from, slots_in

WORDS = ("alike", "within")


def need_pair(one, other):
    """The errors of two Programs that must have the same fields, but for that of too many numbers."""
    need_program(one, "one")
    need_program(other, "other")
    need_fields(one.fields, other)


def need_word(word):
    """BadWord for any value that is no word of tables."""
    if word not in WORDS:
        raise BadWord(word)


class Comparison:
    """The Courses of two programs on one ground, compared by a word.

    A triple is a slot, ascending places of the one and ascending places of the other program.
    """

    def __init__(self, one, other, word):
        self.word = word
        self.ground = one.ground
        self.one = one
        self.other = other

    def first(self, packet):
        """The triple at the beginning with the packet."""
        return (self.ground.slots[packet], (0,), (0,))

    def view(self, triple):
        """What comes next at a triple, by the one and by the other program."""
        slot, places, others = triple
        return (self.one.sight(slot, places), self.other.sight(slot, others))

    def excess(self, view):
        """The crowd of the ends that are not as the word says."""
        if self.word == "within":
            return view[0][0] & ~view[1][0]
        return view[0][0] ^ view[1][0]

    def next_triples(self, view):
        """The triples that the word requires behind a triple with this view, by ascending slots."""
        fan, other_fan = self.one.fan(view[0]), self.other.fan(view[1])
        slots = list(fan) if self.word == "within" else sorted(set([*fan, *other_fan]))
        return [(slot, fan.get(slot, ()), other_fan.get(slot, ())) for slot in slots]

    def told(self, triple):
        """The triple with its packet instead of the slot."""
        return (self.ground.members[triple[0]],) + triple[1:]


def compared(one, other, word, starts):
    """The Comparison of two programs for these packets and all that they may come to."""
    ground = Ground(one.fields, all_trees(one.tree) + all_trees(other.tree), starts)
    return Comparison(Courses(one, ground), Courses(other, ground), word)


class Search:
    """All triples that a comparison requires for these packets, up to the first one that parts the programs.

    They are met by the number of marks, those with the same number by the packets that lead to
    them, the first packet first. So the first one that parts the programs has the least way.
    What is searched need not be a Comparison: it has a ground, first, view, excess and next_triples,
    the first item of a view being a sight.
    """

    def __init__(self, comparison, starts):
        self.comparison = comparison
        self.met = [comparison.first(packet) for packet in starts]
        self.origins = {triple: () for triple in self.met}
        self.parted = None
        viewed = {}
        at = 0
        while at < len(self.met) and self.parted is None:
            triple = self.met[at]
            view = comparison.view(triple)
            if comparison.excess(view) != 0:
                self.parted = triple
            elif view not in viewed:
                viewed[view] = True
                self._meet(comparison.next_triples(view), triple)
            at += 1

    def _meet(self, triples, origin):
        for triple in triples:
            if triple not in self.origins:
                self.origins[triple] = origin
                self.met.append(triple)

    def least_way(self):
        """The packet and the way that part the programs, and whether it is the one program that makes it."""
        slots = [self.parted[0]]
        origin = self.origins[self.parted]
        while origin != ():
            slots.append(origin[0])
            origin = self.origins[origin]
        view = self.comparison.view(self.parted)
        end = slots_in(self.comparison.excess(view))[0]
        members = self.comparison.ground.members
        path = [members[slot] for slot in reversed(list(slots))]
        return path[0], (*path[1:], members[end]), (view[0][0] >> end) & 1 == 1


def searched(one, other, word):
    """The Search through the samples of the numbers that both programs name."""
    starts = samples(one.fields, joint_numbers([one, other]))
    return Search(compared(one, other, word, starts), starts)


def alike(one, other):
    """Whether each packet has the same ways by both."""
    need_pair(one, other)
    return searched(one, other, "alike").parted is None


def within(one, other):
    """Whether each way of each packet by the one is a way of it by the other one."""
    need_pair(one, other)
    return searched(one, other, "within").parted is None


def has_ways(program):
    """Whether some packet has a way."""
    need_program(program, "program")
    return courses_from(program, samples(program.fields, program.numbers)).live[0] != 0


def parting(one, other):
    """None if both are alike, otherwise the least packet and way that just one makes, and its index."""
    need_pair(one, other)
    search = searched(one, other, "alike")
    if search.parted is None:
        return None
    packet, way, is_of_one = search.least_way()
    return (packet, way, 0 if is_of_one else 1)


def beyond(one, other):
    """None if one is within other, otherwise the least packet and way that one makes and other does not."""
    need_pair(one, other)
    search = searched(one, other, "within")
    return None if search.parted is None else search.least_way()[:2]


def table(one, other, word):
    """The ascending list of the triples of the least table; None if there is none."""
    need_pair(one, other)
    need_word(word)
    search = searched(one, other, word)
    if search.parted is not None:
        return None
    return [search.comparison.told(triple) for triple in sorted(search.met)]


def is_places(program, thing):
    """Whether any value is an ascending tuple of different places of the program."""
    if not isinstance(thing, tuple) or not all([is_count(place) for place in thing]):
        return False
    return list(thing) == sorted(set(thing)) and all([place <= program.marks for place in thing])


def is_triple(one, other, thing):
    """Whether any value is a triple that a table of these programs may have."""
    if not isinstance(thing, tuple) or len(thing) != 3 or not is_packet(one.fields, thing[0]):
        return False
    return is_places(one, thing[1]) and is_places(other, thing[2])


def comparisons_of(one, other, word, starts, packets):
    """A dict from these packets to Comparisons that have them, the first one being that of the starts."""
    homes = {}
    for some in [starts, *[[packet] for packet in packets]]:
        if some[0] not in homes:
            comparison = compared(one, other, word, some)
            for member in comparison.ground.members:
                homes[member] = comparison
    return homes


def is_closed(comparison, triple, known):
    """Whether the triple keeps the rules, its successors being known triples."""
    packet, places, others = triple
    view = comparison.view((comparison.ground.slots[packet], places, others))
    if comparison.excess(view) != 0:
        return False
    return all([comparison.told(following) in known for following in comparison.next_triples(view)])


def is_table(one, other, word, thing):
    """Whether any value is a table for both programs and the word."""
    need_pair(one, other)
    need_word(word)
    starts = samples(one.fields, joint_numbers([one, other]))
    if not is_list(thing) or not all([is_triple(one, other, item) for item in thing]):
        return False
    known = {triple: True for triple in thing}
    if len(known) < len(thing) or not all([(packet, (0,), (0,)) in known for packet in starts]):
        return False
    homes = comparisons_of(one, other, word, starts, [triple[0] for triple in thing])
    return all([is_closed(homes[triple[0]], triple, known) for triple in thing])
