"""Fields and packets, the samples that stand for all packets, and sets of packets."""

from markedways.errors import BadFields, BadMost, BadNumbers, BadPacket

LETTERS = "abcdefghijklmnopqrstuvwxyz"
BARRED = ("pass", "drop", "mark", "not")
MOST_LETTERS = 6
MOST_FIELDS = 3
MOST_NUMBERS = 8


def is_count(thing):
    """Whether any value is a number from 0 on."""
    return isinstance(thing, int) and not isinstance(thing, bool) and thing >= 0


def is_field(thing):
    """Whether any value is a field."""
    if not isinstance(thing, str) or not 1 <= len(thing) <= MOST_LETTERS:
        return False
    return thing not in BARRED and all([letter in LETTERS for letter in thing])


def is_list(thing):
    """Whether any value may stand where a list is expected."""
    return isinstance(thing, (list, tuple))


def ascending_fields(fields):
    """The fields as an ascending tuple; BadFields for any value that is no list of them."""
    if not is_list(fields) or not 1 <= len(fields) <= MOST_FIELDS:
        raise BadFields("no list of 1 to 3 fields")
    if not all([is_field(field) for field in fields]):
        raise BadFields("an item is no field")
    if len(set(fields)) < len(fields):
        raise BadFields("a field stands twice")
    return tuple(sorted(fields))


def ascending_numbers(numbers):
    """The numbers as an ascending tuple; BadNumbers for any value that is no list of them."""
    if not is_list(numbers) or len(numbers) > MOST_NUMBERS:
        raise BadNumbers("no list of at most 8 numbers")
    if not all([is_count(number) for number in numbers]):
        raise BadNumbers("an item is no number from 0 on")
    if len(set(numbers)) < len(numbers):
        raise BadNumbers("a number stands twice")
    return tuple(sorted(numbers))


def is_packet(fields, thing):
    """Whether any value is a packet of these fields."""
    names = ascending_fields(fields)
    if not isinstance(thing, tuple) or len(thing) != len(names):
        return False
    return all([is_count(number) for number in thing])


def need_packet(fields, thing):
    """BadPacket for any value that is no packet of these fields."""
    if not is_packet(fields, thing):
        raise BadPacket(thing)


def need_most(thing, bound):
    """BadMost for any value that is no number from 0 to the bound."""
    if not is_count(thing) or thing > bound:
        raise BadMost(thing)


def spares(fields, numbers):
    """The dict from the fields, ascending, to their spares, the numbers being named."""
    names = ascending_fields(fields)
    named = ascending_numbers(numbers)
    found = {}
    number = 0
    for field in names:
        while number in named:
            number += 1
        found[field] = number
        number += 1
    return found


def samples(fields, numbers):
    """The ascending list of the packets in which each field has a named number or its spare."""
    found = spares(fields, numbers)
    return every_packet([sorted([*numbers, found[field]]) for field in found])


def every_packet(choices):
    """The packets with one number out of each of these lists; ascending if the lists are."""
    packets = [()]
    for numbers in choices:
        packets = [packet + (number,) for packet in packets for number in numbers]
    return packets


class Crowds:
    """Sets of packets, as integers, so that many packets are moved at once.

    All packets whose numbers are among those told are counted, ascending; bit k of such an
    integer, called a crowd, is set if the crowd has the packet with the count k.
    """

    def __init__(self, fields, numbers):
        """The fields and the numbers are ascending."""
        self.members = every_packet([numbers for _ in fields])
        self.full = (1 << len(self.members)) - 1
        self.slots = {number: slot for slot, number in enumerate(numbers)}
        # Packets that differ in one field only, by neighbouring numbers, are a stride apart.
        self.strides = {}
        self.lowest = {}
        stride = len(self.members)
        for field in fields:
            stride = stride // len(numbers)
            self.strides[field] = stride
            self.lowest[field] = self._with_least(stride, len(numbers))

    def _with_least(self, stride, many):
        """The crowd of all packets that have the least number where the stride is this one."""
        return sum([1 << at for at in range(len(self.members)) if at // stride % many == 0])

    def _shift(self, field, number):
        return self.slots[number] * self.strides[field]

    def of_packet(self, packet):
        """The crowd of this packet alone."""
        return 1 << self.members.index(packet)

    def packets(self, crowd):
        """The ascending list of the packets of a crowd."""
        return [packet for at, packet in enumerate(self.members) if (crowd >> at) & 1]

    def with_number(self, field, number):
        """The crowd of all packets with this number in the field."""
        return self.lowest[field] << self._shift(field, number)

    def _lowered(self, crowd, field):
        """The packets of the crowd, each with the least number in the field instead."""
        lowered = 0
        for number in self.slots:
            lowered = lowered | (crowd >> self._shift(field, number))
        return lowered & self.lowest[field]

    def after_set(self, crowd, field, number):
        """The packets of the crowd, each with this number in the field."""
        return self._lowered(crowd, field) << self._shift(field, number)

    def after_take(self, crowd, field, other):
        """The packets of the crowd, each with the number of the other field in the field."""
        lowered = self._lowered(crowd, field)
        taken = 0
        for number in self.slots:
            taken = taken | ((lowered & self.with_number(other, number)) << self._shift(field, number))
        return taken
