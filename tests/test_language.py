"""The rules of LANGUAGE.md that can be seen in the files of the package."""

import ast
import builtins
import pathlib
import re
import unittest

FOLDER = pathlib.Path(__file__).resolve().parent.parent / "rolereach"

BUILTINS = set(
    "len range enumerate zip min max sum abs sorted reversed int str bool bytes list tuple dict set frozenset "
    "isinstance ord repr any all divmod pow getattr hasattr setattr iter next map type super property "
    "staticmethod classmethod Exception ValueError TypeError KeyError IndexError LookupError ZeroDivisionError "
    "ArithmeticError OverflowError RuntimeError NotImplementedError AttributeError StopIteration "
    "NotImplemented".split())

BARRED = re.compile(
    r"\b(typing|typing_extensions|enum|Enum|IntEnum|StrEnum|Flag|IntFlag|Generic|Protocol|ABC|ABCMeta|namedtuple|"
    r"NamedTuple|TypedDict|TYPE_CHECKING|abstractmethod)\b|dataclass|overload|contextmanager|_wall|_WallAttr")

NEVER = {"register", "mro", "elements", "open", "input", "law", "version_info", "with_traceback", "add_note"}

CHANGING = ("append", "clear", "extend", "insert", "pop", "remove", "reverse", "setdefault", "update", "add", "discard")

NODES_OUT = (ast.Global, ast.AsyncFunctionDef, ast.AsyncFor, ast.AsyncWith, ast.Await, ast.Div, ast.MatMult)


def sources():
    return [(path, path.read_text(encoding="utf-8")) for path in sorted(FOLDER.rglob("*.py"))]


def trees():
    return [(path.name, ast.parse(text)) for path, text in sources()]


def bound_names(tree):
    """The names that a file gives to functions, classes, parameters and variables."""
    for node in ast.walk(tree):
        if isinstance(node, (ast.FunctionDef, ast.ClassDef)):
            yield node.name
        elif isinstance(node, ast.arg):
            yield node.arg
        elif isinstance(node, ast.Name) and isinstance(node.ctx, ast.Store):
            yield node.id
        elif isinstance(node, ast.ExceptHandler) and node.name:
            yield node.name


def changed_in(tree):
    """Whatever a piece of code assigns items or attributes of, or calls a changing method of."""
    for node in ast.walk(tree):
        if isinstance(node, (ast.Subscript, ast.Attribute)) and isinstance(node.ctx, (ast.Store, ast.Del)):
            yield ast.unparse(node.value)
        elif isinstance(node, ast.Attribute) and node.attr in CHANGING:
            yield ast.unparse(node.value)


class FilesTest(unittest.TestCase):
    def test_the_folder_contains_only_sources(self):
        for path in FOLDER.rglob("*"):
            if path.is_file() and "__pycache__" not in path.parts:
                self.assertRegex(path.name, r"^([a-z][a-z0-9_]*|__init__|__main__)\.py$")

    def test_sizes_and_characters(self):
        for path, text in sources():
            lines = text.split("\n")
            self.assertLessEqual(len(lines), 400, path.name)
            self.assertLessEqual(max(len(line) for line in lines), 120, path.name)
            self.assertEqual([char for char in text if char != "\n" and not " " <= char <= "~"], [], path.name)
            self.assertEqual([line for line in lines if line != line.rstrip()], [], path.name)
            self.assertEqual(BARRED.findall(text), [], path.name)

    def test_functions_have_at_most_forty_lines(self):
        for name, tree in trees():
            for node in ast.walk(tree):
                if isinstance(node, ast.FunctionDef):
                    self.assertLessEqual(node.end_lineno - node.lineno + 1, 40, f"{name}: {node.name}")


class CodeTest(unittest.TestCase):
    def test_imports(self):
        for name, tree in trees():
            for node in ast.walk(tree):
                self.assertNotIsInstance(node, ast.Import, name)
                if isinstance(node, ast.ImportFrom):
                    self.assertIn(node, tree.body, name)
                    self.assertEqual(node.level, 0, name)
                    self.assertTrue(node.module.startswith("rolereach."), name)
                    self.assertNotIn("*", [alias.name for alias in node.names], name)

    def test_no_two_files_import_from_each_other(self):
        imports = {name: {node.module.split(".")[1] + ".py" for node in tree.body if isinstance(node, ast.ImportFrom)}
                   for name, tree in trees()}
        while imports:
            free = [name for name, others in imports.items() if not others & set(imports)]
            self.assertNotEqual(free, [], imports)
            for name in free:
                del imports[name]

    def test_no_local_name_is_that_of_a_class_or_an_import(self):
        for name, tree in trees():
            taken = {alias.asname or alias.name for node in tree.body if isinstance(node, ast.ImportFrom)
                     for alias in node.names} | {node.name for node in tree.body if isinstance(node, ast.ClassDef)}
            local = {node.arg for node in ast.walk(tree) if isinstance(node, ast.arg)}
            local |= {node.id for node in ast.walk(tree) if isinstance(node, ast.Name) and isinstance(node.ctx,
                                                                                                      ast.Store)}
            self.assertEqual(local & taken, set(), name)

    def test_no_name_is_a_method_and_an_attribute(self):
        methods, attributes = set(), set()
        for _, tree in trees():
            for node in ast.walk(tree):
                if isinstance(node, ast.ClassDef):
                    methods |= {part.name for part in node.body if isinstance(part, ast.FunctionDef)}
                if isinstance(node, ast.Attribute) and isinstance(node.ctx, ast.Store):
                    attributes.add(node.attr)
        self.assertEqual(methods & attributes, set())

    def test_the_end_of_a_block_only_puts_back(self):
        for name, tree in trees():
            for node in ast.walk(tree):
                if isinstance(node, ast.FunctionDef) and node.name == "__exit__":
                    self.assertEqual([arg.arg for arg in node.args.args], ["self", "kind", "value", "trace"], name)
                    for part in ast.walk(node):
                        self.assertNotIsInstance(part, (ast.Call, ast.BinOp, ast.Subscript, ast.For, ast.While), name)
                        if isinstance(part, ast.Compare):
                            self.assertEqual(ast.unparse(part), "kind is not None", name)

    def test_module_level(self):
        allowed = (ast.ImportFrom, ast.FunctionDef, ast.ClassDef, ast.Assign)
        for name, tree in trees():
            for at, node in enumerate(tree.body):
                if not (at == 0 and isinstance(node, ast.Expr) and isinstance(node.value, ast.Constant)):
                    self.assertIsInstance(node, allowed, f"{name}: {node.lineno}")

    def test_statements(self):
        for name, tree in trees():
            for node in ast.walk(tree):
                self.assertNotIsInstance(node, NODES_OUT, name)
                for decorator in getattr(node, "decorator_list", []):
                    self.assertEqual(ast.unparse(decorator), "property", name)

    def test_builtins(self):
        known = set(dir(builtins))
        for name, tree in trees():
            for node in ast.walk(tree):
                if isinstance(node, ast.Name) and node.id in known:
                    self.assertIn(node.id, BUILTINS, f"{name}: {node.lineno}")

    def test_names(self):
        known = set(dir(builtins))
        for name, tree in trees():
            methods = {id(part) for node in ast.walk(tree) if isinstance(node, ast.ClassDef) for part in node.body}
            for bound in bound_names(tree):
                self.assertNotIn(bound, NEVER, name)
                if bound != "__init__" and not re.match(r"__[a-z]+__$", bound):
                    self.assertRegex(bound, r"^_?[A-Za-z][A-Za-z0-9_]*$|^_$", name)
            for node in ast.walk(tree):
                if isinstance(node, ast.FunctionDef) and id(node) not in methods:
                    self.assertNotIn(node.name, known, name)
                if isinstance(node, ast.arg):
                    self.assertNotIn(node.arg, known, name)

    def test_what_is_sorted_is_plainly_strings(self):
        # Grants and defaults raise errors of their own when they are compared with other values.
        for name, tree in trees():
            for node in ast.walk(tree):
                if isinstance(node, ast.Call) and ast.unparse(node.func) in ("sorted", "min", "max"):
                    self.assertRegex(ast.unparse(node), r"^sorted\(\[str\((\w+)\) for \1 in [\w.]+\]\)$", name)
                if isinstance(node, ast.Attribute):
                    self.assertNotEqual(node.attr, "sort", name)

    def test_no_generators(self):
        for name, tree in trees():
            for node in ast.walk(tree):
                self.assertNotIsInstance(node, (ast.GeneratorExp, ast.Yield, ast.YieldFrom), name)

    def test_loops_do_not_change_what_they_iterate_over(self):
        for name, tree in trees():
            for node in ast.walk(tree):
                if isinstance(node, ast.For):
                    parts = [part for part in ast.walk(node.iter) if isinstance(part, (ast.Name, ast.Attribute))]
                    over = {ast.unparse(part) for part in parts}
                    self.assertEqual(over & set(changed_in(node)), set(), f"{name}: {node.lineno}")

    def test_operators_return_and_change_nothing(self):
        signs = ("__eq__", "__lt__", "__le__", "__gt__", "__ge__", "__contains__", "__len__")
        for name, tree in trees():
            for node in ast.walk(tree):
                if isinstance(node, ast.FunctionDef) and node.name in signs:
                    self.assertIsInstance(node.body[-1], ast.Return, name)
                    self.assertEqual(list(changed_in(node)), [], f"{name}: {node.lineno}")

    def test_strings(self):
        for name, tree in trees():
            for node in ast.walk(tree):
                if isinstance(node, ast.Constant) and isinstance(node.value, str):
                    self.assertNotIn("%", node.value, name)
                self.assertFalse(isinstance(node, ast.Constant) and isinstance(node.value, (float, complex)), name)

    def test_identity_is_asked_of_constants(self):
        for name, tree in trees():
            for node in ast.walk(tree):
                if isinstance(node, ast.Compare):
                    for sign, part in zip(node.ops, node.comparators):
                        if isinstance(sign, (ast.Is, ast.IsNot)):
                            self.assertIn(ast.unparse(part), ["None", "True", "False"], f"{name}: {node.lineno}")


if __name__ == "__main__":
    unittest.main()
