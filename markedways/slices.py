"""Whether two programs that share a loop stay apart, and programs between two tests."""

from markedways.likeness import beyond, has_ways, need_pair
from markedways.programs import need_fields, need_test
from markedways.rounds import need_program_and_test


def leak(one, other):
    """None if both in one loop make no way that neither makes in its own, otherwise the least packet and such way."""
    need_pair(one, other)
    return beyond((one + other).loop(), one.loop() + other.loop())


def are_apart(one, other):
    """Whether neither program makes ways behind the other one."""
    need_pair(one, other)
    rows = [one >> other, other >> one]
    return not any([has_ways(row) for row in rows])


def sliced(program, into, out):
    """The program behind the test into and ahead of the test out."""
    need_program_and_test(program, into, "into")
    need_test(out, "out")
    need_fields(program.fields, out)
    return into >> program >> out
