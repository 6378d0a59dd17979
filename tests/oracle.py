"""The ends of all courses by the words of points 21 and 22, one packet at a time, and trees to try them on."""

from markedways.programs import Program


def satisfied(fields, test, packet):
    word = test[0]
    if word == "pass":
        return True
    if word == "drop":
        return False
    if word == "is":
        return packet[fields.index(test[1])] == test[2]
    if word == "row":
        return all(satisfied(fields, part, packet) for part in test[1:])
    if word == "choice":
        return any(satisfied(fields, part, packet) for part in test[1:])
    return not satisfied(fields, test[1], packet)


def ends(fields, tree, packet):
    """The set of the ends of all courses of the tree from the packet; fields ascending."""
    word = tree[0]
    if word == "mark":
        return {packet}
    if word in ("set", "take"):
        worth = tree[2] if word == "set" else packet[fields.index(tree[2])]
        at = fields.index(tree[1])
        return {packet[:at] + (worth,) + packet[at + 1:]}
    if word == "row":
        found = {packet}
        for part in tree[1:]:
            found = {end for one in found for end in ends(fields, part, one)}
        return found
    if word == "choice":
        return {end for part in tree[1:] for end in ends(fields, part, packet)}
    if word == "loop":
        found, waiting = {packet}, [packet]
        while waiting:
            for end in ends(fields, tree[1], waiting.pop()):
                if end not in found:
                    found.add(end)
                    waiting.append(end)
        return found
    return {packet} if satisfied(fields, tree, packet) else set()


def a_test(chance, fields, numbers, levels):
    word = chance.choice(("is", "is", "pass", "drop") if levels < 2 else ("is", "row", "choice", "not"))
    if word == "is":
        return ("is", chance.choice(fields), chance.choice(numbers))
    if word == "not":
        return ("not", a_test(chance, fields, numbers, levels - 1))
    if word in ("row", "choice"):
        many = chance.choice((2, 2, 3))
        return (word,) + tuple(a_test(chance, fields, numbers, levels - 1) for _ in range(many))
    return (word,)


def a_tree(chance, fields, numbers, levels):
    if levels < 2 or chance.random() < 0.15:
        words = ["is", "is", "set", "set", "not", "mark", "pass", "drop"]
        word = chance.choice(words + ["take", "take"] * (len(fields) > 1))
    else:
        word = chance.choice(("row", "row", "choice", "choice", "loop"))
    if word in ("pass", "drop", "mark"):
        return (word,)
    if word in ("is", "set"):
        return (word, chance.choice(fields), chance.choice(numbers))
    if word == "take":
        return (word,) + tuple(chance.sample(fields, 2))
    if word == "not":
        return ("not", a_test(chance, fields, numbers, 3))
    if word == "loop":
        return (word, a_tree(chance, fields, numbers, levels - 1))
    many = chance.choice((2, 2, 3, 4))
    return (word,) + tuple(a_tree(chance, fields, numbers, levels - 1) for _ in range(many))


def a_program(chance, fields, numbers, levels):
    """A program of such a tree, one that has no more marks than a program may have."""
    while True:
        tree = a_tree(chance, fields, numbers, levels)
        if repr(tree).count("'mark'") <= 6:
            return Program(fields, tree)
