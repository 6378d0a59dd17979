"""Values of every kind that the document calls "any value", for the tests that judge them."""

from markedways.errors import BadPacket
from markedways.programs import Program


def deep(kind, levels):
    """A list, tuple or dict that has so many levels."""
    thing = 0
    for _ in range(levels):
        thing = {"list": [thing], "tuple": (thing,), "dict": {0: thing}}[kind]
    return thing


def odd_values():
    """New values of all kinds, none of which is fields, a packet, a tree or a list of numbers."""
    return [
        None, True, False, 7, -7, 10 ** 99, -10 ** 99, "", "a", "pass", "a b\n", [[]], ((),), {},
        {"a": 1}, {1: 2, (1, 2): 3}, [None], (None,), [True], (True, False), [-1], (-1,), ["A"], ("A",),
        [{"a": 1}], ({},), [[1]], ([1],), deep("list", 20), deep("tuple", 20), deep("dict", 20),
        Program(["a"], ("pass",)), [Program(["a"], ("pass",))], (Program(["a"], ("pass",)),),
        {"a": Program(["a"], ("pass",))}, BadPacket(1), [BadPacket(1)],
    ]


def no_programs():
    """Such values, none of which is a Program."""
    return [thing for thing in odd_values() if not isinstance(thing, Program)]


NO_MOSTS = [True, False, -1, 10 ** 99, None, "1", "", (), [], {}, (1,), [1], {1: 1}, ((1,),)]
NO_PLACES = [True, False, -1, 10 ** 99, None, "0", "", (), [], {}, (0,), [0], {0: 0}]
