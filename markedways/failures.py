"""The fewest links of a net whose failing strands a packet, or lets one pass by told tests."""

from itertools import combinations

from markedways.errors import BadNet
from markedways.meeting import least_dodging, need_tests
from markedways.nets import Net, net_numbers, outcomes, taken, trees_of
from markedways.packets import MOST_NUMBERS, need_most, samples
from markedways.programs import allow, need_fields, need_test, satisfies, satisfying
from markedways.ways import Ground, slots_in

MOST_FAILING = 3


def need_net(thing):
    """BadNet for any value that is no Net."""
    if not isinstance(thing, Net):
        raise BadNet("net")


def need_ends(net, source, goal):
    """The errors of a net and of the tests at which its rides begin and end."""
    need_net(net)
    need_test(source, "source")
    need_fields(net.fields, source)
    need_test(goal, "goal")
    need_fields(net.fields, goal)


def all_numbers(net, tests):
    """The numbers that the rules and the tests name and the switches, ascending; TooMany if they are too many."""
    numbers = sorted(set([*net_numbers(net), *[number for test in tests for number in test.numbers]]))
    allow(len(numbers), "numbers", MOST_NUMBERS)
    return numbers


def lots_of(net, most):
    """The list of the lots of at most so many links, by length, then ascending."""
    links = list(net.links)
    return [lot for many in range(most + 1) for lot in combinations(links, many)]


class Traffic:
    """The rides of a net, links failing, told as Courses tell what goes on behind places.

    All places are alike: rides go on behind what was written down last, whatever was before.
    """

    def __init__(self, net, starts):
        steps = [tree for switch in net.switches for rule in net[switch] for tree in trees_of(rule)]
        self.ground = Ground(net.fields, steps, starts)
        self.pairs = net.links
        slots = self.ground.slots
        self.chances = []
        for packet in self.ground.members:
            groups = outcomes(net, packet)
            self.chances.append([[(pair, slots[target]) for pair, target in group] for group in groups])
        self.fail(())

    def fail(self, lot):
        """These links fail from now on, and no others."""
        left = [pair for pair in self.pairs if pair not in lot]
        self.targets = [sorted(set(taken(groups, left))) for groups in self.chances]

    def sight(self, slot, _):
        """The crowd of the packet itself, at which a ride may end, and that of those behind a hop."""
        return (self.ground.alone[slot], sum([self.ground.alone[target] for target in self.targets[slot]]))

    def fan(self, sight):
        """The dict from the slots that are written down next, ascending, to places."""
        return {slot: (1,) for slot in slots_in(sight[1])}

    def coming_to(self, crowd):
        """The crowd of the packets with a ride that ends within this one."""
        origins = [[] for _ in self.targets]
        for slot, targets in enumerate(self.targets):
            for target in targets:
                origins[target].append(slot)
        found = crowd
        waiting = slots_in(crowd)
        while len(waiting) > 0:
            fresh = [slot for slot in origins[waiting.pop()] if (found >> slot) & 1 == 0]
            for slot in fresh:
                found = found | self.ground.alone[slot]
            waiting.extend(fresh)
        return found


def traffic_of(net, source, numbers):
    """The Traffic of the net, and the samples that satisfy source."""
    found = samples(net.fields, numbers)
    return Traffic(net, found), [packet for packet in found if satisfies(net.fields, source.tree, packet)]


def stranding(net, source, goal, most):
    """The first lot of at most so many links that strands a sample, and the least such sample, or None."""
    need_ends(net, source, goal)
    need_most(most, MOST_FAILING)
    traffic, starts = traffic_of(net, source, all_numbers(net, [source, goal]))
    goals = satisfying(traffic.ground, goal.tree)
    for lot in lots_of(net, most):
        traffic.fail(lot)
        coming = traffic.coming_to(goals)
        stranded = [packet for packet in starts if traffic.ground.of_packet(packet) & coming == 0]
        if len(stranded) > 0:
            return (lot, stranded[0])
    return None


def passing_by(net, source, goal, via, most):
    """The first lot of at most so many links with which a ride does not meet the tests, the packet and the ride.

    None if there is none.
    """
    need_ends(net, source, goal)
    need_tests(net.fields, via)
    need_most(most, MOST_FAILING)
    traffic, starts = traffic_of(net, source, all_numbers(net, [source, goal, *via]))
    for lot in lots_of(net, most):
        traffic.fail(lot)
        found = least_dodging(traffic, starts, goal, via)
        if found is not None:
            return (lot, *found)
    return None
