"""The ends of all courses by the words of points 21 and 22, one packet at a time, and trees to try them on."""

from markedways.packets import samples
from markedways.programs import Program


def satisfied(fields, test, packet):
    word = test[0]
    if word == "pass":
        return True
    if word == "drop":
        return False
    if word == "is":
        return packet[fields.index(test[1])] == test[2]
    if word == "row":
        return all(satisfied(fields, part, packet) for part in test[1:])
    if word == "choice":
        return any(satisfied(fields, part, packet) for part in test[1:])
    return not satisfied(fields, test[1], packet)


def ends(fields, tree, packet):
    """The set of the ends of all courses of the tree from the packet; fields ascending."""
    word = tree[0]
    if word == "mark":
        return {packet}
    if word in ("set", "take"):
        worth = tree[2] if word == "set" else packet[fields.index(tree[2])]
        at = fields.index(tree[1])
        return {packet[:at] + (worth,) + packet[at + 1:]}
    if word == "row":
        found = {packet}
        for part in tree[1:]:
            found = {end for one in found for end in ends(fields, part, one)}
        return found
    if word == "choice":
        return {end for part in tree[1:] for end in ends(fields, part, packet)}
    if word == "loop":
        found, waiting = {packet}, [packet]
        while waiting:
            for end in ends(fields, tree[1], waiting.pop()):
                if end not in found:
                    found.add(end)
                    waiting.append(end)
        return found
    return {packet} if satisfied(fields, tree, packet) else set()


def a_test(chance, fields, numbers, levels):
    word = chance.choice(("is", "is", "pass", "drop") if levels < 2 else ("is", "row", "choice", "not"))
    if word == "is":
        return ("is", chance.choice(fields), chance.choice(numbers))
    if word == "not":
        return ("not", a_test(chance, fields, numbers, levels - 1))
    if word in ("row", "choice"):
        many = chance.choice((2, 2, 3))
        return (word,) + tuple(a_test(chance, fields, numbers, levels - 1) for _ in range(many))
    return (word,)


def a_tree(chance, fields, numbers, levels):
    if levels < 2 or chance.random() < 0.15:
        words = ["is", "is", "set", "set", "not", "mark", "pass", "drop"]
        word = chance.choice(words + ["take", "take"] * (len(fields) > 1))
    else:
        word = chance.choice(("row", "row", "choice", "choice", "loop"))
    if word in ("pass", "drop", "mark"):
        return (word,)
    if word in ("is", "set"):
        return (word, chance.choice(fields), chance.choice(numbers))
    if word == "take":
        return (word,) + tuple(chance.sample(fields, 2))
    if word == "not":
        return ("not", a_test(chance, fields, numbers, 3))
    if word == "loop":
        return (word, a_tree(chance, fields, numbers, levels - 1))
    many = chance.choice((2, 2, 3, 4))
    return (word,) + tuple(a_tree(chance, fields, numbers, levels - 1) for _ in range(many))


def a_program(chance, fields, numbers, levels):
    """A program of such a tree, one that has no more marks than a program may have."""
    while True:
        tree = a_tree(chance, fields, numbers, levels)
        if repr(tree).count("'mark'") <= 6:
            return Program(fields, tree)


def changed(fields, move, packet):
    """The packet behind a set or a take."""
    at = fields.index(move[1])
    worth = move[2] if move[0] == "set" else packet[fields.index(move[2])]
    return packet[:at] + (worth,) + packet[at + 1:]


def with_places(tree, place=0):
    """The tree with each ("mark",) as ("mark", place), and the last place."""
    if tree[0] == "mark":
        return ("mark", place + 1), place + 1
    if tree[0] not in ("row", "choice", "loop"):
        return tree, place
    parts = []
    for part in tree[1:]:
        told, place = with_places(part, place)
        parts.append(told)
    return (tree[0], *parts), place


def courses(fields, tree, packet, most):
    """Point 22, word by word: the set of the courses with at most so many entries, as (entries, end)."""
    word = tree[0]
    if word == "mark":
        return {(((tree[1], packet),), packet)} if most > 0 else set()
    if word in ("set", "take"):
        return {((), changed(fields, tree, packet))}
    if word == "row":
        return in_a_row(fields, {((), packet)}, tree[1:], most)
    if word == "choice":
        return {course for part in tree[1:] for course in courses(fields, part, packet, most)}
    if word == "loop":
        found, waiting = {((), packet)}, {((), packet)}
        while waiting:
            waiting = in_a_row(fields, waiting, tree[1:], most) - found
            found |= waiting
        return found
    return {((), packet)} if satisfied(fields, tree, packet) else set()


def in_a_row(fields, found, trees, most):
    """What the courses that are found so far become by courses of these trees, one after the other."""
    for tree in trees:
        found = {(entries + more, last) for entries, end in found
                 for more, last in courses(fields, tree, end, most - len(entries))}
    return found


def going_on(fields, tree, place, packet, most):
    """Point 24, word by word: what goes on behind this place, as (entries, end); no set without the place."""
    if place == 0:
        return courses(fields, tree, packet, most)
    if tree[0] == "mark":
        return {((), packet)} if tree[1] == place else None
    for at, part in enumerate(tree[1:] if tree[0] in ("row", "choice", "loop") else ()):
        found = going_on(fields, part, place, packet, most)
        if found is not None:
            behind = {"row": tree[at + 2:], "choice": (), "loop": (tree,)}[tree[0]]
            return in_a_row(fields, found, behind, most)
    return None


def all_ways_to(program, packet, most):
    """Point 23, word by word: the ways with at most so many marks, in the order of ways."""
    found = courses(program.fields, with_places(program.tree)[0], packet, most)
    told = {tuple(written for _, written in entries) + (end,) for entries, end in found}
    return sorted(told, key=lambda way: (len(way), way))


class Walker:
    """Steps and ends of a program, for any number of marks: one tree at a time is done, those behind it wait."""

    def __init__(self, program):
        self.names = program.fields
        self.root = with_places(program.tree)[0]
        self.kept = {}

    def behind(self, tree, place):
        """The trees that wait behind the mark with this place, None if the tree has no such mark."""
        if tree[0] == "mark":
            return () if tree[1] == place else None
        for at, part in enumerate(tree[1:] if tree[0] in ("row", "choice", "loop") else ()):
            found = self.behind(part, place)
            if found is not None:
                return found + {"row": tree[at + 2:], "choice": (), "loop": (tree,)}[tree[0]]
        return None

    def next_ones(self, place, packet):
        """The set of ends, and the set of (place, packet) that are marked next, ended or not."""
        if (place, packet) not in self.kept:
            waiting = [((self.root,) if place == 0 else self.behind(self.root, place), packet)]
            known, last, marked = set(waiting), set(), set()
            while waiting:
                trees, now = waiting.pop()
                if not trees:
                    last.add(now)
                elif trees[0][0] == "mark":
                    marked.add((trees[0][1], now))
                else:
                    new = [one for one in self.done(trees[0], trees[1:], now) if one not in known]
                    known.update(new)
                    waiting.extend(new)
            self.kept[place, packet] = (last, marked)
        return self.kept[place, packet]

    def done(self, tree, rest, packet):
        word = tree[0]
        if word == "row":
            return [(tree[1:] + rest, packet)]
        if word == "choice":
            return [((part,) + rest, packet) for part in tree[1:]]
        if word == "loop":
            return [(rest, packet), ((tree[1], tree) + rest, packet)]
        if word in ("set", "take"):
            return [(rest, changed(self.names, tree, packet))]
        return [(rest, packet)] if satisfied(self.names, tree, packet) else []

    def ends(self, place, packet):
        return sorted(self.next_ones(place, packet)[0])

    def is_live(self, pair):
        known, waiting = {pair}, [pair]
        while waiting:
            last, marked = self.next_ones(*waiting.pop())
            if last:
                return True
            waiting.extend(marked - known)
            known |= marked
        return False

    def steps(self, place, packet):
        return sorted(pair for pair in self.next_ones(place, packet)[1] if self.is_live(pair))


def keeps_the_rules(one, other, word, triples):
    """Point 31, word by word, for a list of triples that have the form of triples."""
    first, second = Walker(one), Walker(other)
    known = set(triples)
    if len(known) < len(triples):
        return False
    numbers = sorted(set(one.numbers + other.numbers))
    if any((packet, (0,), (0,)) not in known for packet in samples(one.fields, numbers)):
        return False
    return all(rules_hold(first, second, word, known, triple) for triple in triples)


def rules_hold(first, second, word, known, triple):
    packet, places, others = triple
    some = {end for place in places for end in first.ends(place, packet)}
    more = {end for place in others for end in second.ends(place, packet)}
    if not (some <= more if word == "within" else some == more):
        return False
    steps = {pair for place in places for pair in first.steps(place, packet)}
    other_steps = {pair for place in others for pair in second.steps(place, packet)}
    for written in {pair[1] for pair in steps | other_steps}:
        here = tuple(sorted(place for place, now in steps if now == written))
        there = tuple(sorted(place for place, now in other_steps if now == written))
        if (here or word == "alike") and (written, here, there) not in known:
            return False
    return True
