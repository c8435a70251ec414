"""The rules for the package's code that can be counted: files, sizes, signs, imports, module level."""

import ast
import builtins
import re
import unittest
from pathlib import Path

FOLDER = Path(__file__).resolve().parent.parent / "flowyard"
FILES = sorted(FOLDER.glob("*.py"))
LIBRARY = {
    "heapq": {"heappush", "heappop", "heapify", "heapreplace", "heappushpop"},
    "math": {"gcd", "lcm", "isqrt", "comb", "perm", "factorial"},
    "itertools": {"product", "combinations", "permutations", "chain", "accumulate", "pairwise", "islice",
                  "zip_longest"},
    "collections": {"defaultdict", "deque"},
}

BARRED_WORDS = re.compile(r"\b(type|typing|enum|Enum|IntEnum|Flag|Generic|Protocol|ABC|namedtuple|register|mro|elements"
                          r"|open|input|law|compile|exit|id|vars|eval|exec|super|dir|help)\b")

# Where something was shown at a prompt, or by doctest, Python itself keeps it as _.
BUILTINS = [name for name in dir(builtins) if name != "_"]


def trees():
    return [(path.name, ast.parse(path.read_text())) for path in FILES]


def bound_at_top(tree):
    """The names that a file itself defines, imports left out."""
    names = []
    for node in tree.body:
        if isinstance(node, (ast.FunctionDef, ast.ClassDef)):
            names.append(node.name)
        if isinstance(node, ast.Assign):
            names += [target.id for target in node.targets]
    return names


class Rules(unittest.TestCase):
    def test_the_folder_has_plain_files_alone(self):
        for path in FOLDER.iterdir():
            if path.name != "__pycache__":
                self.assertRegex(path.name, r"\A[a-z_][a-z0-9_]*\.py\Z")
        self.assertTrue((FOLDER / "__init__.py").exists())

    def test_sizes_and_signs(self):
        for path in FILES:
            lines = path.read_text().split("\n")
            self.assertLess(len(lines), 401, path)
            for line in lines:
                self.assertLessEqual(len(line), 120, path)
                self.assertRegex(line, r"\A[ -~]*\Z", path)

    def test_functions_have_at_most_40_lines(self):
        for name, tree in trees():
            for node in ast.walk(tree):
                if isinstance(node, ast.FunctionDef):
                    self.assertLessEqual(node.end_lineno - node.lineno + 1, 40, f"{name}: {node.name}")

    def test_module_level(self):
        for name, tree in trees():
            body = tree.body
            if body and isinstance(body[0], ast.Expr):
                body = body[1:]
            kinds = [type(node) for node in body]
            for kind in kinds:
                self.assertIn(kind, (ast.ImportFrom, ast.FunctionDef, ast.ClassDef, ast.Assign), name)
            imports = kinds.count(ast.ImportFrom)
            self.assertEqual(kinds[:imports], [ast.ImportFrom] * imports, name)
            names = bound_at_top(tree)
            self.assertEqual(len(names), len(set(names)), name)

    def test_imports_name_the_file_that_defines_the_name(self):
        defined = {f"flowyard.{name[:-3]}": bound_at_top(tree) for name, tree in trees()}
        for name, tree in trees():
            for node in ast.walk(tree):
                self.assertNotIsInstance(node, ast.Import, name)
                if isinstance(node, ast.ImportFrom):
                    self.assertEqual(node.level, 0, name)
                    known = LIBRARY.get(node.module) or defined[node.module]
                    for each in node.names:
                        self.assertIn(each.name, known, name)
                        self.assertIsNone(each.asname, name)

    def test_imports_are_used_and_go_round_in_no_way(self):
        deps = {}
        for name, tree in trees():
            imports = [node for node in tree.body if isinstance(node, ast.ImportFrom)]
            used = {node.id for node in ast.walk(tree) if isinstance(node, ast.Name)}
            self.assertEqual({each.name for node in imports for each in node.names} - used, set(), name)
            deps[f"flowyard.{name[:-3]}"] = {node.module for node in imports} - set(LIBRARY)
        while deps:
            free = [name for name, others in deps.items() if not others & set(deps)]
            self.assertTrue(free, sorted(deps))
            for name in free:
                del deps[name]

    def test_names(self):
        for name, tree in trees():
            imported = [each.name for node in tree.body if isinstance(node, ast.ImportFrom) for each in node.names]
            classes = [node.name for node in tree.body if isinstance(node, ast.ClassDef)]
            for node in ast.walk(tree):
                bound = None
                if isinstance(node, ast.arg):
                    bound = node.arg
                elif isinstance(node, ast.Name) and isinstance(node.ctx, ast.Store):
                    bound = node.id
                if bound is not None:
                    self.assertNotIn(bound, imported + classes + BUILTINS, name)
                    self.assertIsNone(BARRED_WORDS.search(bound), f"{name}: {bound}")
                if isinstance(node, (ast.FunctionDef, ast.ClassDef)):
                    self.assertNotIn(node.name, BUILTINS, name)
                    self.assertIsNone(BARRED_WORDS.search(node.name), f"{name}: {node.name}")

    def test_no_generators_and_no_stored_sets(self):
        for name, tree in trees():
            for node in ast.walk(tree):
                self.assertNotIsInstance(node, (ast.GeneratorExp, ast.Yield, ast.YieldFrom, ast.Lambda), name)
                if isinstance(node, ast.Assign):
                    self.assertNotIsInstance(node.value, (ast.Set, ast.SetComp), name)

    def test_no_percent_sign_in_strings_and_no_floats(self):
        for name, tree in trees():
            for node in ast.walk(tree):
                if isinstance(node, ast.Constant):
                    self.assertNotIsInstance(node.value, float, name)
                    self.assertNotIn("%", str(node.value), name)


if __name__ == "__main__":
    unittest.main()
