"""Whether ways meet told tests in their order, and the gates that let only such packets in."""

from markedways.errors import BadPacket, BadTests
from markedways.likeness import Search
from markedways.packets import ascending_fields, is_list, is_packet, samples
from markedways.programs import Program, is_test, joint_numbers, need_fields, need_test, satisfies, satisfying
from markedways.rounds import gate, need_program_and_test
from markedways.ways import courses_from

MOST_TESTS = 3


def need_tests(fields, via):
    """BadTests for any value that is no list of 1 to 3 Programs of tests with these fields."""
    if not is_list(via) or not 1 <= len(via) <= MOST_TESTS:
        raise BadTests(None)
    for at, thing in enumerate(via):
        if not isinstance(thing, Program) or thing.fields != fields or not is_test(thing.tree):
            raise BadTests(at)


def meets(fields, way, via):
    """Whether the way meets the tests, one behind the other."""
    names = ascending_fields(fields)
    if not isinstance(way, tuple) or len(way) == 0 or not all([is_packet(names, packet) for packet in way]):
        raise BadPacket(way)
    need_tests(names, via)
    joint_numbers(via)
    met = 0
    # The first mark that satisfies a test leaves the most marks for the tests behind it.
    for packet in way[:-1]:
        if met < len(via) and satisfies(names, via[met].tree, packet):
            met += 1
    return met == len(via)


class Dodging:
    """The ways that end within a goal and do not meet the tests, for a Search.

    A triple is a slot, ascending places and how many tests are met, always fewer than all: a way
    that has met all tests is not followed any longer.
    """

    def __init__(self, courses, goal, via):
        self.courses = courses
        self.ground = courses.ground
        self.goal = satisfying(self.ground, goal.tree)
        self.tests = [satisfying(self.ground, test.tree) for test in via]

    def first(self, packet):
        """The triple at the beginning with the packet."""
        return (self.ground.slots[packet], (0,), 0)

    def view(self, triple):
        """What comes next at a triple, and how many tests are met there."""
        slot, places, met = triple
        return (self.courses.sight(slot, places), met)

    def excess(self, view):
        """The crowd of the ends within the goal."""
        return view[0][0] & self.goal

    def next_triples(self, view):
        """The triples behind a triple with this view at which not all tests are met, by ascending slots."""
        sight, met = view
        found = []
        for slot, places in self.courses.fan(sight).items():
            met_there = met + ((self.tests[met] >> slot) & 1)
            if met_there < len(self.tests):
                found.append((slot, places, met_there))
        return found


def least_dodging(courses, starts, goal, via):
    """The least packet of the starts and its least way that ends within goal and does not meet the tests, or None."""
    search = Search(Dodging(courses, goal, via), starts)
    return None if search.parted is None else search.least_way()[:2]


def dodging(program, source, goal, via):
    """None if the program keeps the tests, otherwise the least packet and way that does not meet them."""
    need_program_and_test(program, source, "source")
    need_test(goal, "goal")
    need_fields(program.fields, goal)
    need_tests(program.fields, via)
    found = samples(program.fields, joint_numbers([program, source, goal, *via]))
    starts = [packet for packet in found if satisfies(program.fields, source.tree, packet)]
    return least_dodging(courses_from(program, found), starts, goal, via)


def keeps(program, source, goal, via):
    """Whether each way of a packet that satisfies source meets the tests, if its end satisfies goal."""
    return dodging(program, source, goal, via) is None


def dodging_past(courses, goal, test, behind):
    """Place by place, the crowd of those from which ways go on that end within the goal and do not meet the tests.

    The goal and the first of these tests are crowds; behind is the answer for the other tests alone.
    """
    found = courses.ending_in(goal)
    while True:
        next_ones = [(some & ~test) | (more & test) for some, more in zip(found, behind)]
        wider = [some | more for some, more in zip(found, courses.leading_to(next_ones))]
        if wider == found:
            return found
        found = wider


def meeting_gate(program, goal, via):
    """The Program of a test: satisfied by just the packets each way of which meets the tests, if it ends in goal."""
    need_program_and_test(program, goal, "goal")
    need_tests(program.fields, via)
    named = joint_numbers([program, goal, *via])
    starts = samples(program.fields, named)
    courses = courses_from(program, starts)
    goals = satisfying(courses.ground, goal.tree)
    found = [0 for _ in courses.outlooks]
    for test in reversed(list(via)):
        found = dodging_past(courses, goals, satisfying(courses.ground, test.tree), found)
    good = [packet for packet in starts if found[0] & courses.ground.of_packet(packet) == 0]
    return gate(program.fields, named, good)
