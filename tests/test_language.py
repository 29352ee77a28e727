"""Checks some rules of the program's language that are easily overlooked; the numbers are those of the rules."""

import ast
import builtins
import functools
import pathlib
import unittest

PACKAGE = pathlib.Path(__file__).resolve().parent.parent / "allscreens"

LIBRARY = {
    "heapq": {"heappush", "heappop", "heapify", "heapreplace", "heappushpop"},
    "math": {"gcd", "lcm", "isqrt", "comb", "perm", "factorial"},
    "itertools": {
        "product", "combinations", "permutations", "chain", "accumulate", "pairwise", "islice", "zip_longest",
    },
    "collections": {"defaultdict", "deque"},
}

BUILTINS = set("""
len range enumerate zip min max sum abs sorted reversed int str bool bytes list tuple dict set frozenset isinstance ord
repr any all divmod pow getattr hasattr setattr iter next map type super property staticmethod classmethod print
Exception ValueError TypeError KeyError IndexError LookupError ZeroDivisionError ArithmeticError OverflowError
RuntimeError NotImplementedError AttributeError StopIteration NotImplemented
""".split())


@functools.cache
def texts():
    return {path.name: path.read_text(encoding="utf-8") for path in sorted(PACKAGE.glob("*.py"))}


@functools.cache
def trees():
    return {name: ast.parse(text) for name, text in texts().items()}


def nodes(*kinds):
    return [(name, node) for name, tree in trees().items() for node in ast.walk(tree) if isinstance(node, kinds)]


def defined(tree):
    """The names that a file defines itself, at module level."""
    names = [node.name for node in tree.body if isinstance(node, (ast.FunctionDef, ast.ClassDef))]
    return names + [node.targets[0].id for node in tree.body if isinstance(node, ast.Assign)]


class LanguageTest(unittest.TestCase):
    def test_l1_the_folder_contains_nothing_else(self):
        others = [path.name for path in PACKAGE.iterdir() if path.suffix != ".py" and path.name != "__pycache__"]
        self.assertEqual(others, [])
        self.assertIn("__init__.py", texts())

    def test_l2_l16_imports(self):
        for name, node in nodes(ast.Import, ast.ImportFrom):
            with self.subTest(file=name, line=node.lineno):
                self.assertIsInstance(node, ast.ImportFrom)
                self.assertEqual((node.level, [each.asname for each in node.names if each.asname]), (0, []))
                imported = [each.name for each in node.names]
                if node.module in LIBRARY:
                    self.assertLessEqual(set(imported), LIBRARY[node.module])
                else:
                    folder, file = node.module.split(".")
                    self.assertEqual(folder, "allscreens")
                    self.assertLessEqual(set(imported), set(defined(trees()[file + ".py"])))

    def test_l7_no_floats_and_no_generator_expressions(self):
        self.assertEqual([(name, node.lineno) for name, node in nodes(ast.GeneratorExp)], [])
        floats = [node for _, node in nodes(ast.Constant) if isinstance(node.value, (float, complex))]
        self.assertEqual(floats, [])
        self.assertEqual([node for _, node in nodes(ast.BinOp) if isinstance(node.op, ast.Div)], [])

    def test_l8_l15_builtins(self):
        for name, node in nodes(ast.Name):
            # Whoever runs an example of the document leaves a value in the builtin _.
            if hasattr(builtins, node.id) and node.id != "_":
                with self.subTest(file=name, line=node.lineno):
                    self.assertIn(node.id, BUILTINS)
                    self.assertIsInstance(node.ctx, ast.Load)

    def test_l10_sizes(self):
        for name, text in texts().items():
            self.assertLessEqual(len(text.splitlines()), 399, name)
            for line in text.splitlines():
                self.assertLessEqual(len(line), 120, (name, line))
        for name, node in nodes(ast.FunctionDef):
            self.assertLessEqual(node.end_lineno - node.lineno + 1, 40, (name, node.name))

    def test_l14_signs(self):
        for name, text in texts().items():
            self.assertEqual([sign for sign in text if sign != "\n" and not " " <= sign <= "~"], [], name)

    def test_l15_one_binding_for_each_name(self):
        for name, tree in trees().items():
            imported = [each.name for node in tree.body if isinstance(node, ast.ImportFrom) for each in node.names]
            names = imported + defined(tree)
            self.assertEqual(sorted(set(names)), sorted(names), name)
            top = {node.name for node in tree.body if isinstance(node, ast.ClassDef)} | set(imported)
            for node in ast.walk(tree):
                if isinstance(node, ast.arg):
                    self.assertNotIn(node.arg, top, name)
                    self.assertFalse(hasattr(builtins, node.arg), (name, node.arg))
                if isinstance(node, ast.Name) and isinstance(node.ctx, ast.Store):
                    self.assertNotIn(node.id, top, name)

    def test_l5_l18_names_of_decorated_methods(self):
        decorated, plain, attributes = set(), set(), set()
        for _, node in nodes(ast.ClassDef):
            for method in node.body:
                if isinstance(method, ast.FunctionDef):
                    (decorated if method.decorator_list else plain).add(method.name)
        for _, node in nodes(ast.Attribute):
            if isinstance(node.ctx, ast.Store):
                attributes.add(node.attr)
        setters = {
            method.name for _, node in nodes(ast.ClassDef) for method in node.body
            if isinstance(method, ast.FunctionDef) for each in method.decorator_list
            if isinstance(each, ast.Attribute) and each.attr == "setter"
        }
        self.assertEqual(decorated & plain, set())
        self.assertEqual(decorated & attributes - setters, set())

    def test_l6_finally(self):
        allowed = (ast.Pass, ast.Assign, ast.AugAssign, ast.If)
        for name, node in nodes(ast.Try):
            for each in node.finalbody:
                for inner in ast.walk(each):
                    with self.subTest(file=name, line=each.lineno):
                        self.assertFalse(isinstance(inner, ast.stmt) and not isinstance(inner, allowed))
                        self.assertNotIsInstance(inner, (ast.Call, ast.Subscript, ast.BinOp, ast.Dict, ast.JoinedStr))

    def test_l12_l17_names(self):
        barred = {
            "register", "mro", "elements", "open", "input", "law", "version_info", "with_traceback", "add_note", "typing",
            "enum", "namedtuple", "dataclass", "abstractmethod", "exit", "help", "id", "vars", "dir", "eval", "exec",
        }
        words = [(name, node.id) for name, node in nodes(ast.Name)] + [(name, node.attr) for name, node in nodes(ast.Attribute)]
        words += [(name, node.arg) for name, node in nodes(ast.arg, ast.keyword)]
        words += [(name, node.name) for name, node in nodes(ast.FunctionDef, ast.ClassDef)]
        for name, word in words:
            self.assertNotIn(word, barred, name)
            if word is not None and not word.endswith("__"):
                self.assertFalse(word.startswith(("__", "_wall", "_law")), (name, word))

    def test_l8_l17_kinds_are_asked_in_one_way(self):
        kinds = {"int", "str", "tuple"}
        for name, node in nodes(ast.Name):
            if node.id == "type":
                self.assertEqual(name, "checked_values.py")
        for name, tree in trees().items():
            asked = [node for node in ast.walk(tree) if isinstance(node, ast.Compare) and isinstance(node.left, ast.Call)
                     and isinstance(node.left.func, ast.Name) and node.left.func.id == "type"]
            for node in asked:
                self.assertIsInstance(node.ops[0], ast.Eq)
                self.assertIn(node.comparators[0].id, kinds)
            calls = [node for node in ast.walk(tree) if isinstance(node, ast.Name) and node.id == "type"]
            self.assertEqual(len(calls), len(asked), name)

    def test_l23_calls_of_generators_are_iterated_at_once(self):
        generators = {
            node.name for _, node in nodes(ast.FunctionDef)
            if any(isinstance(each, (ast.Yield, ast.YieldFrom)) for each in ast.walk(node))
        }
        iterated = {
            (name, node.iter.lineno, node.iter.col_offset) for name, node in nodes(ast.For, ast.comprehension)}
        for name, node in nodes(ast.Call):
            if isinstance(node.func, ast.Name) and node.func.id in generators:
                self.assertIn((name, node.lineno, node.col_offset), iterated)
        self.assertEqual(generators, {"bands", "unlike_lists"})

    def test_l20_is(self):
        for name, node in nodes(ast.Compare):
            if any(isinstance(each, (ast.Is, ast.IsNot)) for each in node.ops):
                with self.subTest(file=name, line=node.lineno):
                    self.assertIsInstance(node.comparators[0], ast.Constant)

    def test_l25_no_sort(self):
        self.assertEqual([(name, node.lineno) for name, node in nodes(ast.Attribute) if node.attr == "sort"], [])


if __name__ == "__main__":
    unittest.main()
