"""The form of the program: what can be checked of ../shared/LANGUAGE.md by its parts, with the numbers of its rules."""

import ast
import builtins
import pathlib
import re
import unittest

import tablepipe

FOLDER = pathlib.Path(tablepipe.__file__).parent
FILES = {path.stem: path.read_text(encoding="utf-8") for path in sorted(FOLDER.glob("*.py"))}
TREES = {name: ast.parse(text) for name, text in FILES.items()}
BUILTINS = {
    "len", "range", "enumerate", "zip", "min", "max", "sum", "abs", "sorted", "reversed", "int", "str", "bool", "list",
    "tuple", "dict", "set", "isinstance", "ord", "repr", "any", "all", "divmod", "ValueError",
}
METHODS = set(
    "append clear copy count endswith extend find get index insert isalnum isalpha isdigit islower isspace isupper "
    "items join keys ljust lower lstrip partition pop remove replace reverse rfind rjust rpartition rsplit rstrip "
    "setdefault split splitlines startswith strip update upper values zfill bit_length isascii isdecimal add discard"
    .split()
)
# The statements and expressions that this program needs; a new kind is looked up in the rules first.
NODES = set(
    "Module Expr Constant ImportFrom alias Assign Name Load Store Dict List Tuple Set FunctionDef ClassDef arguments "
    "arg Return If While For Raise AugAssign Attribute Call Subscript Slice Starred ListComp DictComp SetComp "
    "comprehension Lambda IfExp BoolOp And Or UnaryOp USub Not BinOp Add Sub Mult Mod FloorDiv Pow Compare Eq NotEq "
    "Lt LtE Gt GtE In NotIn Is IsNot JoinedStr FormattedValue keyword".split()
)


def nodes(*kinds):
    for name, tree in TREES.items():
        for node in ast.walk(tree):
            if isinstance(node, kinds):
                yield name, node


def names_bound(tree):
    """The names that a file binds at its module level."""
    bound = []
    for node in tree.body:
        if isinstance(node, (ast.FunctionDef, ast.ClassDef)):
            bound.append(node.name)
        elif isinstance(node, ast.ImportFrom):
            bound += [alias.name for alias in node.names]
        elif isinstance(node, ast.Assign):
            bound += [target.id for target in node.targets]
    return bound


class Files(unittest.TestCase):
    def test_the_folder_contains_files_of_the_program_only(self):
        for path in FOLDER.iterdir():
            if path.name != "__pycache__":
                self.assertRegex(path.name, r"\A([a-z][a-z0-9_]*|__init__)\.py\Z", "L1, L14")

    def test_characters_and_sizes(self):
        for name, text in FILES.items():
            with self.subTest(name):
                self.assertIsNone(re.search(r"[^\n -~]", text), "L14")
                lines = text.split("\n")
                self.assertLessEqual(len(lines), 399, "L10")
                self.assertLessEqual(max(map(len, lines)), 120, "L10")
        for name, node in nodes(ast.FunctionDef):
            self.assertLessEqual(node.end_lineno - node.lineno + 1, 40, f"L10 {name}")


class Imports(unittest.TestCase):
    def test_files_import_from_the_file_that_defines_the_name(self):
        for name, node in nodes(ast.ImportFrom):
            with self.subTest(name):
                self.assertIn(node, TREES[name].body)
                self.assertEqual(node.level, 0)
                package, _, file = node.module.partition(".")
                self.assertEqual(package, "tablepipe", "L2")
                own = names_bound(TREES[file])
                imported = [alias.name for part in TREES[file].body if isinstance(part, ast.ImportFrom)
                            for alias in part.names]
                for alias in node.names:
                    self.assertIsNone(alias.asname)
                    self.assertIn(alias.name, own, "L16")
                    self.assertNotIn(alias.name, imported, "L16")

    def test_no_files_import_from_each_other(self):
        needs = {name: set() for name in FILES}
        for name, node in nodes(ast.ImportFrom):
            needs[name].add(node.module.partition(".")[2])
        while needs:
            free = [name for name in needs if not needs[name] & set(needs)]
            self.assertTrue(free, f"L16 {sorted(needs)}")
            for name in free:
                del needs[name]


class Names(unittest.TestCase):
    def test_module_level(self):
        for name, tree in TREES.items():
            bound = names_bound(tree)
            self.assertEqual(len(bound), len(set(bound)), f"L15 {name}")
            for place, node in enumerate(tree.body):
                docstring = place == 0 and isinstance(node, ast.Expr) and isinstance(node.value, ast.Constant)
                kinds = (ast.ImportFrom, ast.FunctionDef, ast.ClassDef, ast.Assign)
                self.assertTrue(docstring or isinstance(node, kinds), f"L3 {name}")
                if isinstance(node, ast.Assign):
                    ast.literal_eval(node.value)

    def test_names_are_plain_and_no_builtins(self):
        found = [(name, node.id) for name, node in nodes(ast.Name) if isinstance(node.ctx, ast.Store)]
        found += [(name, node.arg) for name, node in nodes(ast.arg)]
        found += [(name, node.name) for name, node in nodes(ast.FunctionDef, ast.ClassDef)]
        for name, word in found:
            if word not in ("__init__", "__eq__", "_"):
                self.assertRegex(word, r"\A_?[A-Za-z][A-Za-z0-9_]*\Z", f"L12 {name}")
                self.assertFalse(hasattr(builtins, word), f"L15 {name} {word}")

    def test_local_names_are_not_those_of_classes_and_imports(self):
        for name, tree in TREES.items():
            outer = {node.name for node in tree.body if isinstance(node, ast.ClassDef)}
            outer |= {alias.name for node in tree.body if isinstance(node, ast.ImportFrom) for alias in node.names}
            for function in ast.walk(tree):
                if isinstance(function, ast.FunctionDef):
                    inner = {node.arg for node in ast.walk(function) if isinstance(node, ast.arg)}
                    inner |= {node.id for node in ast.walk(function)
                              if isinstance(node, ast.Name) and isinstance(node.ctx, ast.Store)}
                    self.assertFalse(inner & outer, f"L15 {name} {function.name}")

    def test_only_allowed_builtins_and_methods_are_used(self):
        own = {node.name for _, node in nodes(ast.FunctionDef)}
        for name, node in nodes(ast.Name):
            if isinstance(node.ctx, ast.Load) and hasattr(builtins, node.id):
                self.assertIn(node.id, BUILTINS, f"L8 {name}")
        for name, node in nodes(ast.Call):
            if isinstance(node.func, ast.Attribute):
                self.assertIn(node.func.attr, METHODS | own, f"L25 {name}")
                if node.func.attr in METHODS:
                    self.assertEqual(node.keywords, [], f"L25 {name}")


class Parts(unittest.TestCase):
    def test_only_known_kinds_of_statements_and_expressions(self):
        for name, node in nodes(ast.AST):
            self.assertIn(type(node).__name__, NODES, f"L6, L7 {name} line {getattr(node, 'lineno', 0)}")

    def test_constants(self):
        for name, node in nodes(ast.Constant):
            self.assertIn(type(node.value), (int, str, bool, type(None)), f"L7 {name}")
            if isinstance(node.value, str):
                self.assertNotIn(chr(37), node.value, f"L27 {name}")

    def test_functions_and_classes_are_plain(self):
        for name, node in nodes(ast.FunctionDef, ast.ClassDef):
            self.assertEqual(node.decorator_list, [], f"L4, L5 {name}")
            if isinstance(node, ast.ClassDef):
                self.assertIn(node, TREES[name].body, f"L15 {name}")
                for part in node.body:
                    self.assertIsInstance(part, (ast.FunctionDef, ast.Expr), f"L5 {name}")
                methods = [part.name for part in node.body if isinstance(part, ast.FunctionDef)]
                attributes = [part.attr for part in ast.walk(node)
                              if isinstance(part, ast.Attribute) and isinstance(part.ctx, ast.Store)]
                self.assertEqual(len(set(methods)), len(methods), f"L18 {name}")
                self.assertFalse(set(methods) & set(attributes), f"L18 {name}")

    def test_sets_and_generators_are_not_iterated_by_loops(self):
        for name, node in nodes(ast.For, ast.comprehension):
            self.assertNotIsInstance(node.iter, (ast.Set, ast.SetComp, ast.GeneratorExp), f"L24 {name}")


if __name__ == "__main__":
    unittest.main()
