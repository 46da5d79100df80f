"""What holds for the files of the package: the interface's places, and the rules that a test can see."""

import ast
import unittest
from pathlib import Path

FOLDER = Path(__file__).resolve().parent.parent / "pagecounts"
INTERFACE = {
    "books.py": {
        "pages": ["book", "size"],
        "page_of": ["book", "size", "chapter", "line"],
        "lines_on": ["book", "size", "page"],
        "counts": ["book", "limit"],
    },
    "sizes.py": {
        "least_size": ["book", "most"],
        "sizes_with": ["book", "number"],
        "total_pages": ["book", "first", "last"],
    },
    "tables.py": {
        "lengths_of": ["table"],
        "count_books": ["table"],
    },
    "parting.py": {
        "same_counts": ["first", "second"],
        "parting_size": ["first", "second"],
    },
    "chains.py": {
        "count_fitting": ["chapters", "lines", "chain"],
        "contradiction": ["chapters", "lines", "chain"],
        "nth_fitting": ["chapters", "lines", "chain", "number"],
    },
    "hidden.py": {
        "HiddenBook": {"__init__": ["self", "book"], "ask": ["self", "size"], "questions": ["self"]},
        "find": ["hidden", "longest"],
    },
    "live.py": {
        "LiveBook": {
            "__init__": ["self", "book"],
            "__eq__": ["self", "other"],
            "book": ["self"],
            "chapters": ["self"],
            "lines": ["self"],
            "add": ["self", "*lengths"],
            "split": ["self", "chapter", "line"],
            "join": ["self", "chapter"],
            "undo": ["self"],
            "titles": ["self", "size"],
            "from_table": ["cls", "table"],
        },
    },
    "texts.py": {
        "show_book": ["book"],
    },
    "readings.py": {
        "read_book": ["text"],
    },
}
for error in ("InvalidBook", "InvalidSize", "InvalidTable", "InvalidChain", "InvalidNumber", "NothingToUndo",
              "Unreadable"):
    INTERFACE.setdefault("errors.py", {})[error] = {"__init__": ["self", "value"]}
LIBRARY = {
    "heapq": ["heappush", "heappop", "heapify", "heapreplace", "heappushpop"],
    "math": ["gcd", "lcm", "isqrt", "comb", "perm", "factorial"],
    "itertools": ["product", "combinations", "permutations", "chain", "accumulate", "pairwise", "islice",
                  "zip_longest"],
    "collections": ["defaultdict", "deque"],
}


def package_files():
    return [path for path in sorted(FOLDER.rglob("*")) if "__pycache__" not in path.parts]


def argument_names(node):
    names = [item.arg for item in node.args.args]
    if node.args.vararg:
        names.append("*" + node.args.vararg.arg)
    return names


def defined_names(tree):
    return [node.name for node in tree.body if isinstance(node, (ast.FunctionDef, ast.ClassDef))]


class Layout(unittest.TestCase):
    def setUp(self):
        self.texts = {path: path.read_text(encoding="ascii") for path in package_files()}
        self.trees = {path: ast.parse(text) for path, text in self.texts.items()}

    def test_only_plain_python_files(self):
        self.assertIn(FOLDER / "__init__.py", self.texts)
        for path in self.texts:
            self.assertRegex(path.name, r"^[a-z0-9_]+\.py$")

    def test_interface_is_defined_in_its_files(self):
        for name, listed in INTERFACE.items():
            self.check_defined(self.trees[FOLDER / name], listed)

    def check_defined(self, tree, listed):
        nodes = {node.name: node for node in tree.body if isinstance(node, (ast.FunctionDef, ast.ClassDef))}
        for name, told in listed.items():
            if isinstance(told, dict):
                self.check_defined(nodes[name], told)
            else:
                self.assertEqual(argument_names(nodes[name]), told)

    def test_characters_and_lengths(self):
        for path, text in self.texts.items():
            lines = text.split("\n")
            self.assertLessEqual(len(lines), 400, path)
            for line in lines:
                self.assertTrue(all(" " <= sign <= "~" for sign in line), (path, line))
                self.assertLessEqual(len(line), 120, (path, line))

    def test_functions_are_short(self):
        for path, tree in self.trees.items():
            for node in ast.walk(tree):
                if isinstance(node, ast.FunctionDef):
                    self.assertLessEqual(node.end_lineno - node.lineno + 1, 40, (path, node.name))

    def test_imports(self):
        for path, tree in self.trees.items():
            for node in ast.walk(tree):
                self.assertNotIsInstance(node, ast.Import, path)
                if isinstance(node, ast.ImportFrom):
                    self.check_import(path, node)

    def check_import(self, path, node):
        package, _, rest = node.module.partition(".")
        allowed = LIBRARY.get(node.module, [])
        if package == "pagecounts":
            allowed = defined_names(self.trees[FOLDER / (rest.replace(".", "/") + ".py")])
        for name in node.names:
            self.assertIsNone(name.asname, path)
            self.assertIn(name.name, allowed, path)

    def test_no_floats(self):
        for path, tree in self.trees.items():
            for node in ast.walk(tree):
                self.assertNotIsInstance(node, ast.Div, path)
                self.assertFalse(isinstance(node, ast.Constant) and isinstance(node.value, float), path)


if __name__ == "__main__":
    unittest.main()
