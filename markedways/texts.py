"""Trees and programs as texts, and such texts read."""

from markedways.errors import BadText, BadTree
from markedways.packets import MOST_FIELDS, is_field
from markedways.programs import Program, all_trees, has_fields, is_tree, need_program

# The trees that stand in parentheses within a tree of this word.
ENCLOSED = {"choice": ("choice",), "row": ("row", "choice"), "not": ("row", "choice"), "loop": ("row", "choice", "not")}
# Twelve levels of trees, each with one pair of parentheses at most.
MOST_STAGES = 24


def tree_text(tree):
    """The text of the tree."""
    if not is_tree(tree):
        raise BadTree("no tree")
    return text_of(tree)


def text_of(tree):
    """The text of a tree."""
    word = tree[0]
    if word in ("pass", "drop", "mark"):
        return word
    if word == "is":
        return f"{tree[1]}={tree[2]}"
    if word in ("set", "take"):
        return f"{tree[1]}:={tree[2]}"
    inner = [inner_text(part, word) for part in tree[1:]]
    if word == "not":
        return f"not {inner[0]}"
    if word == "loop":
        return f"{inner[0]}*"
    return "; ".join(inner) if word == "row" else " + ".join(inner)


def inner_text(tree, word):
    """The text of a tree within a tree of this word."""
    text = text_of(tree)
    return f"({text})" if tree[0] in ENCLOSED[word] else text


def split_outside(text, sign):
    """The pieces of the text between the signs that stand in no parentheses."""
    pieces = []
    depth = 0
    for piece in text.split(sign):
        if depth > 0:
            pieces[-1] = pieces[-1] + sign + piece
        else:
            pieces.append(piece)
        depth = depth + piece.count("(") - piece.count(")")
    return pieces


def number_of(text):
    """The number with these figures, None for another text."""
    return int(text) if text.isascii() and text.isdigit() else None


def leaf_of(text):
    """The tree without inner trees with this text; no tree for any other text."""
    if text in ("pass", "drop", "mark"):
        return (text,)
    if ":=" in text:
        field, _, worth = text.partition(":=")
        return ("take", field, worth) if is_field(worth) else ("set", field, number_of(worth))
    field, _, worth = text.partition("=")
    return ("is", field, number_of(worth))


def read(text, stages):
    """The tree with this text; for any other text perhaps a tree, perhaps not."""
    if stages < 1:
        return None
    for word, sign in (("choice", " + "), ("row", "; ")):
        pieces = split_outside(text, sign)
        if len(pieces) > 1:
            return (word, *[read(piece, stages - 1) for piece in pieces])
    if text.startswith("not "):
        return ("not", read(text[4:], stages - 1))
    if text.endswith("*"):
        return ("loop", read(text[:-1], stages - 1))
    if text.startswith("(") and text.endswith(")"):
        return read(text[1:-1], stages - 1)
    return leaf_of(text)


def tree_of(text):
    """The tree with exactly this text, None for any other text."""
    tree = read(text, MOST_STAGES)
    return tree if is_tree(tree) and text_of(tree) == text else None


def read_tree(text):
    """The tree with exactly this text."""
    tree = tree_of(text) if isinstance(text, str) else None
    if tree is None:
        raise BadText(0)
    return tree


def program_text(program):
    """The text of the program: its fields in a line, its tree in another one."""
    need_program(program, "program")
    names = " ".join(program.fields)
    return f"fields {names}\n{text_of(program.tree)}\n"


def fields_of(line):
    """The fields that the line tells, None for any other line."""
    words = line.split(" ")
    names = words[1:]
    if words[0] != "fields" or not 1 <= len(names) <= MOST_FIELDS:
        return None
    if not all([is_field(name) for name in names]) or names != sorted(set(names)):
        return None
    return names


def read_program(text):
    """The program with exactly this text."""
    if not isinstance(text, str):
        raise BadText(0)
    head, first_end, rest = text.partition("\n")
    fields = fields_of(head)
    if fields is None or first_end == "":
        raise BadText(0)
    body, second_end, behind = rest.partition("\n")
    tree = tree_of(body)
    if tree is None or second_end == "" or not has_fields(fields, all_trees(tree)):
        raise BadText(1)
    if behind != "":
        raise BadText(2)
    return Program(fields, tree)
