"""Programs for the tests of what programs do: a few told ones, and pairs that chance makes."""

from markedways.errors import WayError
from markedways.programs import Program
from oracle import a_program

PASS, DROP, MARK = ("pass",), ("drop",), ("mark",)


def at(field, number):
    return ("is", field, number)


def put(field, number):
    return ("set", field, number)


def take(field, other):
    return ("take", field, other)


def row(*trees):
    return ("row", *trees)


def choice(*trees):
    return ("choice", *trees)


def loop(tree):
    return ("loop", tree)


def solo(tree):
    """A program of the field a."""
    return Program(["a"], tree)


def pair(tree):
    """A program of the fields a and b."""
    return Program(["a", "b"], tree)


def trio(tree):
    """A program of the fields a, b and c."""
    return Program(["a", "b", "c"], tree)


def walk():
    """The program of the document's first example."""
    door = Program(["at", "tag"], ("row", ("is", "at", 1), ("mark",), ("set", "at", 2)))
    hall = Program(["tag", "at"], ("row", ("is", "at", 2), ("mark",), ("take", "tag", "at"), ("set", "at", 1)))
    return (door + hall).loop()


def counter(many):
    """Counts a from 1 on, marked at each number, up to so many, and ends there."""
    steps = [row(at("a", number), put("a", number + 1)) for number in range(1, many)]
    return solo(row(put("a", 1), loop(row(choice(*steps, DROP), MARK)), at("a", many)))


def odometer(most):
    """Counts through all numbers of a, b and c from 1 to most, marked at each turn, and ends behind the last one."""
    turn = DROP
    for field in ("a", "b", "c"):
        steps = [row(at(field, number), put(field, number + 1)) for number in range(1, most)]
        turn = choice(*steps, row(at(field, most), put(field, 1), turn))
    full = row(*[at(field, most) for field in ("a", "b", "c")])
    return trio(row(put("a", 1), put("b", 1), put("c", 1), loop(row(turn, MARK)), full))


def six_marks():
    """Six marks in rows, choices, loops and loops in loops."""
    return pair(choice(
        row(MARK, loop(row(at("a", 1), MARK, choice(put("a", 2), put("b", 1)))), put("a", 1)),
        loop(choice(row(at("b", 0), put("b", 1), MARK), loop(row(MARK, put("b", 0), ("not", at("a", 3)))))),
        row(choice(row(MARK, at("a", 0)), take("a", "b")), loop(loop(row(put("a", 3), MARK))), at("b", 1))))


def varied(chance, tree, field, number):
    """The tree with one tree in it made otherwise, sometimes so that nothing else comes of it."""
    if tree[0] in ("row", "choice", "loop") and chance.random() < 0.75:
        index = chance.randrange(1, len(tree))
        return tree[:index] + (varied(chance, tree[index], field, number),) + tree[index + 1:]
    return chance.choice([
        tree, row(PASS, tree), choice(DROP, tree), choice(tree, tree), loop(tree), PASS, DROP, row(tree, tree),
        row(tree, at(field, number)), row(tree, put(field, number)), choice(PASS, row(tree, loop(tree)))])


def some_fields(chance):
    return ["a", "b", "c"][:chance.choice((1, 1, 2, 2, 3))]


def a_pair(chance, most_marks=3):
    """Two programs of the same fields, often much alike, with not too many marks."""
    while True:
        fields, numbers = some_fields(chance), [0, 1, 5][:chance.choice((1, 2, 2))]
        one = a_program(chance, fields, numbers, chance.choice((2, 3, 4, 5)))
        try:
            if chance.random() < 0.8:
                other = Program(fields, varied(chance, one.tree, chance.choice(fields), chance.choice(numbers)))
            else:
                other = a_program(chance, fields, numbers + [9], chance.choice((2, 3, 4)))
        except WayError:
            continue
        if max(one.marks, other.marks) <= most_marks:
            return (one, other) if chance.random() < 0.5 else (other, one)


def a_packet(chance, fields, numbers):
    return tuple(chance.choice(numbers) for _ in fields)
