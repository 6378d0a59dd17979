import ast
import pathlib
import unittest

FOLDER = pathlib.Path(__file__).resolve().parent.parent / "markedways"
ORDER = ["errors", "packets", "programs", "ways", "likeness", "machines", "rounds", "meeting", "slices", "parts",
         "nets", "failures", "live", "texts", "desk"]
INTERFACE = {
    "errors": ["WayError"],
    "packets": ["is_field", "is_packet", "spares", "samples"],
    "programs": ["is_tree", "is_test", "Program"],
    "ways": ["ways", "is_way", "steps", "ends"],
    "likeness": ["alike", "within", "has_ways", "parting", "beyond", "table", "is_table"],
    "machines": ["least_machine", "machine_ways"],
    "rounds": ["weakest_gate", "most_marks", "ring", "is_ring", "all_ways"],
    "meeting": ["meets", "keeps", "dodging", "meeting_gate"],
    "slices": ["leak", "are_apart", "sliced"],
    "parts": ["part_at", "parts", "without", "idle_parts", "struck", "idle_lots"],
    "nets": ["Net"],
    "failures": ["stranding", "passing_by"],
    "live": ["LiveNet", "first_wrong", "replayed"],
    "texts": ["tree_text", "read_tree", "program_text", "read_program"],
    "desk": ["Desk"],
}
METHODS = {
    "programs": ("Program",
                 ["fields", "numbers", "tree", "marks", "__add__", "__rshift__", "__invert__", "loop", "__eq__",
                             "__call__", "holds"]),
    "nets": ("Net", ["fields", "switches", "links", "switch_field", "__getitem__", "__iter__", "__eq__", "hop", "rides",
                     "program", "without"]),
    "live": ("LiveNet", ["net", "log", "do", "undo", "copy", "__eq__", "__enter__", "__exit__", "tried"]),
    "desk": ("Desk", ["say"]),
}


def module(name):
    return ast.parse((FOLDER / f"{name}.py").read_text(encoding="ascii"))


class Form(unittest.TestCase):
    def test_the_folder_holds_modules_of_the_interface_only(self):
        names = {path.stem for path in FOLDER.iterdir() if path.name != "__pycache__"}
        self.assertEqual(names, {"__init__", *ORDER})
        self.assertEqual({"errors", *INTERFACE}, set(ORDER))

    def test_init_defines_nothing(self):
        self.assertTrue(all(isinstance(row, ast.Expr) for row in module("__init__").body))

    def test_each_module_uses_only_modules_ahead_of_it(self):
        for path in FOLDER.glob("[a-z]*.py"):
            for row in ast.walk(ast.parse(path.read_text())):
                self.assertNotIsInstance(row, ast.Import)
                if isinstance(row, ast.ImportFrom) and row.module.startswith("markedways"):
                    with self.subTest(path=path.name, used=row.module):
                        used = row.module.split(".")[1]
                        self.assertLess(ORDER.index(used), ORDER.index(path.stem))

    def test_names_are_defined_where_the_interface_lists_them(self):
        for name, wanted in INTERFACE.items():
            found = [row.name for row in module(name).body if isinstance(row, (ast.FunctionDef, ast.ClassDef))]
            with self.subTest(name):
                self.assertLessEqual(set(wanted), set(found))

    def test_methods_are_defined_in_the_class(self):
        for name, (kind, wanted) in METHODS.items():
            classes = [row for row in module(name).body if isinstance(row, ast.ClassDef) and row.name == kind]
            found = [row.name for row in classes[0].body if isinstance(row, ast.FunctionDef)]
            with self.subTest(kind):
                self.assertLessEqual(set(wanted), set(found))

    def test_sizes(self):
        for path in FOLDER.glob("*.py"):
            lines = path.read_text(encoding="ascii").split("\n")
            with self.subTest(path.name):
                self.assertLess(len(lines), 400)
                self.assertLessEqual(max(len(line) for line in lines), 120)
                self.assertNotIn("\t", "".join(lines))
            for row in ast.walk(module(path.stem)):
                if isinstance(row, ast.FunctionDef):
                    with self.subTest(path=path.name, function=row.name):
                        self.assertLessEqual(row.end_lineno - row.lineno, 39)


if __name__ == "__main__":
    unittest.main()
