"""The interface stands where the document lists it, and the package keeps to the rules that are easy to count."""

import ast
import importlib
import inspect
import unittest
from pathlib import Path

PACKAGE = Path(__file__).resolve().parent.parent / "forklent"
# For each file the names that the document lists under it, with the parameters as the document writes them.
INTERFACE = {
    "errors": {
        "ForkError": None, "KindProblem": None, "NoSuchFunction": None, "NotAllocated": None, "NoSuchStep": None,
        "NoSuchVariable": None, "Refused": None,
    },
    "kinds": {
        "is_plain": "(kind)", "is_copy": "(kind)", "levels": "(kind)", "leaves": "(kind)",
        "kind_after": "(records, kind, step)",
    },
    "places": {
        "is_prefix": "(first, second)", "overlap": "(first, second)", "kind_at": "(place, *, records, kinds)",
        "crossed": "(place, *, records, kinds)",
    },
    "kinding": {"check_kinds": "(program)"},
    "graph": {"Graph": None, "build_graph": "(program, name)"},
    "effects": {
        "uses": "(program, graph, point)", "clears": "(program, graph, point)", "access": "(program, graph, point)",
        "moves": "(program, graph, point)",
    },
    "layout": {
        "size": "(records, kind)", "offset": "(records, kind, step)", "frame": "(program, graph)",
    },
    "marks": {
        "loans": "(program, graph)", "conflicts": "(wanted, loan, crossing)", "first_marks": "(program, graph)",
        "new_marks": "(program, graph, point)", "pass_mark": "(program, graph, point, mark)",
        "problems": "(program, graph, point, marks)",
    },
    "checker": {"check_function": "(program, name)", "check_program": "(program)"},
    "papers": {"paper": "(program)", "judge": "(program, paper)"},
    "meaning": {"meaning": "(program, arguments, limit)"},
    "memory": {"Memory": "()"},
    "machine": {
        "run_memory": "(program, arguments, schedule, limit)", "trace_memory": "(program, arguments, schedule, limit)",
        "watch": "(program, arguments, schedule, limit)",
    },
}
# For each class whose methods the document lists, these with their parameters.
METHODS = {
    "Memory": {
        "allocate": "(self, size)", "release": "(self, address)", "read": "(self, address)",
        "write": "(self, address, number)", "blocks": "(self)",
    },
}
# The files that the document does not list, but that these need.
HELPERS = ("cells", "history", "instructions", "plain", "programs", "running", "shapes", "tracked")


class TestForm(unittest.TestCase):
    def trees(self):
        for file in sorted(PACKAGE.glob("*.py")):
            yield file, ast.parse(file.read_text(encoding="ascii"))

    def test_the_interface_is_defined_where_it_is_listed(self):
        for name, listed in INTERFACE.items():
            module = importlib.import_module(f"forklent.{name}")
            for word, parameters in listed.items():
                found = getattr(module, word)
                self.assertEqual(found.__module__, f"forklent.{name}")
                if parameters is None or word in METHODS:
                    self.assertTrue(inspect.isclass(found), word)
                else:
                    self.assertTrue(inspect.isfunction(found), word)
                if parameters is not None:
                    self.assertEqual(str(inspect.signature(found)), parameters, word)

    def test_methods_are_defined_in_the_class_itself(self):
        for name, listed in METHODS.items():
            module = importlib.import_module(f"forklent.{name.lower()}")
            for word, parameters in listed.items():
                self.assertEqual(str(inspect.signature(vars(vars(module)[name])[word])), parameters, word)

    def test_the_package_has_only_the_files_that_are_needed(self):
        found = sorted(file.name for file in PACKAGE.iterdir() if file.name != "__pycache__")
        self.assertEqual(found, sorted(f"{name}.py" for name in ("__init__", *INTERFACE, *HELPERS)))

    def test_sizes_and_characters(self):
        for file, tree in self.trees():
            rows = file.read_text(encoding="ascii").split("\n")
            self.assertLessEqual(len(rows), 399, file.name)
            for row in rows:
                self.assertLessEqual(len(row), 120, file.name)
                self.assertTrue(all(" " <= sign <= "~" for sign in row), file.name)
            for node in ast.walk(tree):
                if isinstance(node, ast.FunctionDef):
                    self.assertLessEqual(node.end_lineno - node.lineno + 1, 40, node.name)

    def test_imports_name_the_file_that_defines_the_name(self):
        for file, tree in self.trees():
            for node in ast.walk(tree):
                self.assertNotIsInstance(node, ast.Import, file.name)
                if isinstance(node, ast.ImportFrom) and node.module.startswith("forklent"):
                    source = ast.parse((PACKAGE / (node.module.split(".")[1] + ".py")).read_text(encoding="ascii"))
                    for alias in node.names:
                        self.assertIn(alias.name, defined(source))
                elif isinstance(node, ast.ImportFrom):
                    self.assertIn(node.module, ("heapq", "math", "itertools", "collections", "__future__"))

    def test_no_string_has_a_percent_sign(self):
        for file, tree in self.trees():
            for node in ast.walk(tree):
                if isinstance(node, ast.Constant) and isinstance(node.value, str):
                    self.assertNotIn("%", node.value, file.name)


def defined(tree):
    """The names that a file binds itself, without its imports."""
    names = [node.name for node in tree.body if isinstance(node, (ast.FunctionDef, ast.ClassDef))]
    assigned = [target.id for node in tree.body if isinstance(node, ast.Assign) for target in node.targets]
    return names + assigned


if __name__ == "__main__":
    unittest.main()
