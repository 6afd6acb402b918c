"""Checks that the files of the package keep to the project's subset of Python.

It is stricter than the subset in places: what the package has not needed so
far (generators, sets, try, lambdas ..) is to be checked here when it comes.
"""

import ast
import builtins
import unittest
import warnings
from pathlib import Path

PACKAGE = Path(__file__).resolve().parent.parent / "fivebases"
BUILTINS = set(
    "len range enumerate zip min max sum abs sorted reversed int str bool list tuple dict isinstance ord repr any all "
    "divmod set ValueError property".split())
TAKEN = {name for name in dir(builtins) if not name.startswith("_")}
OUTSIDE = {"math": {"gcd", "lcm", "isqrt", "comb", "perm", "factorial"}}
METHODS = set(
    "append clear copy count endswith extend find get index insert isalnum isalpha isdigit islower isspace isupper "
    "items join keys ljust lower lstrip partition pop remove replace reverse rfind rjust rpartition rsplit rstrip "
    "setdefault split splitlines startswith strip update upper values zfill bit_length removeprefix removesuffix "
    "isascii isdecimal".split())
SPECIAL = set("__init__ __eq__ __str__ __repr__ __len__ __add__ __sub__ __mul__ __neg__".split())
BARRED_NAMES = set("register mro elements open input law version_info with_traceback add_note".split())
BARRED_WORDS = (
    "typing enum Enum IntEnum StrEnum Flag IntFlag Generic Protocol ABC namedtuple NamedTuple TypedDict").split()
STATEMENTS = (
    ast.FunctionDef, ast.ClassDef, ast.Return, ast.Assign, ast.For, ast.While, ast.If, ast.Raise, ast.Expr,
    ast.ImportFrom, ast.Pass, ast.Break, ast.Continue, ast.Try)
UNUSED = (
    ast.GeneratorExp, ast.Lambda, ast.Set, ast.SetComp, ast.Yield, ast.YieldFrom, ast.Await, ast.NamedExpr, ast.Div,
    ast.MatMult)


def trees():
    return [(path, ast.parse(path.read_text())) for path in sorted(PACKAGE.glob("*.py"))]


def walk(kind):
    return [(path, node) for path, tree in trees() for node in ast.walk(tree) if isinstance(node, kind)]


def place(path, node):
    return f"{path.name}:{node.lineno}"


class TestFiles(unittest.TestCase):
    def test_the_folder_holds_plain_files_alone(self):
        for path in PACKAGE.iterdir():
            if path.name != "__pycache__":
                self.assertRegex(path.name, r"^[a-z_][a-z0-9_]*\.py$")
                self.assertNotIn(path.stem, TAKEN)

    def test_sizes_and_characters(self):
        for path in PACKAGE.glob("*.py"):
            text = path.read_text()
            self.assertTrue(all(c == "\n" or " " <= c <= "~" for c in text), path.name)
            self.assertLessEqual(len(text.splitlines()), 399, path.name)
            self.assertLessEqual(max(map(len, text.splitlines())), 120, path.name)
        for path, node in walk(ast.FunctionDef):
            self.assertLessEqual(node.end_lineno - node.lineno + 1, 40, place(path, node))

    def test_python_gives_no_warning(self):
        for path in PACKAGE.glob("*.py"):
            with warnings.catch_warnings():
                warnings.simplefilter("error")
                compile(path.read_text(), path.name, "exec")

    def test_the_package_itself_defines_nothing(self):
        tree = ast.parse((PACKAGE / "__init__.py").read_text())
        self.assertTrue(all(isinstance(node, ast.Expr) for node in tree.body))


class TestModuleLevel(unittest.TestCase):
    def test_what_stands_there_and_each_name_once(self):
        for path, tree in trees():
            names = []
            for node in tree.body:
                if isinstance(node, ast.ImportFrom):
                    names.extend(alias.name for alias in node.names)
                elif isinstance(node, (ast.FunctionDef, ast.ClassDef)):
                    names.append(node.name)
                elif isinstance(node, ast.Assign):
                    names.extend(target.id for target in node.targets)
                    self.assertFalse([x for x in ast.walk(node) if isinstance(x, ast.Call)], place(path, node))
                else:
                    self.assertIsInstance(node.value, ast.Constant, place(path, node))
            self.assertEqual(len(names), len(set(names)), path.name)

    def test_imports_name_the_defining_file(self):
        defined = {path.stem: set() for path, _ in trees()}
        for path, tree in trees():
            for node in tree.body:
                if isinstance(node, (ast.FunctionDef, ast.ClassDef)):
                    defined[path.stem].add(node.name)
                elif isinstance(node, ast.Assign):
                    defined[path.stem].update(target.id for target in node.targets)
        for path, node in walk(ast.ImportFrom):
            self.assertEqual((node.level, node.col_offset), (0, 0), place(path, node))
            known = OUTSIDE.get(node.module) or defined[node.module.removeprefix("fivebases.")]
            for alias in node.names:
                self.assertIn(alias.name, known, place(path, node))
                self.assertIsNone(alias.asname, place(path, node))


class TestCode(unittest.TestCase):
    def test_statements_and_expressions(self):
        for path, node in walk(ast.stmt):
            self.assertIsInstance(node, STATEMENTS, place(path, node))
        for path, tree in trees():
            self.assertFalse([node for node in ast.walk(tree) if isinstance(node, UNUSED)], path.name)

    def test_sameness_is_asked_of_none_alone(self):
        for path, node in walk(ast.Compare):
            for operator, value in zip(node.ops, node.comparators):
                if isinstance(operator, (ast.Is, ast.IsNot)):
                    self.assertEqual(ast.unparse(value), "None", place(path, node))

    def test_sets_stand_in_sorted_alone(self):
        sets = [(path, node) for path, node in walk(ast.Call) if ast.unparse(node.func) == "set"]
        sorts = [node for _, node in walk(ast.Call) if ast.unparse(node.func) == "sorted" and not node.keywords]
        within = [ast.unparse(argument) for node in sorts for argument in node.args]
        for path, node in sets:
            self.assertIn(ast.unparse(node), within, place(path, node))

    def test_exponents_are_small_literals(self):
        for path, node in walk(ast.BinOp):
            if isinstance(node.op, ast.Pow):
                self.assertIsInstance(node.right, ast.Constant, place(path, node))
                self.assertIn(node.right.value, range(65), place(path, node))

    def test_strings_and_numbers(self):
        for path, node in walk(ast.Constant):
            self.assertNotIsInstance(node.value, (float, complex, bytes), place(path, node))
            if isinstance(node.value, str) and "\n" not in node.value:
                self.assertNotIn("%", node.value, place(path, node))
                for word in BARRED_WORDS + ["type"]:
                    self.assertNotIn(word, node.value.split(), place(path, node))

    def test_names(self):
        for path, tree in trees():
            top = {
                name for node in tree.body if isinstance(node, (ast.ImportFrom, ast.ClassDef))
                for name in ([x.name for x in node.names] if isinstance(node, ast.ImportFrom) else [node.name])}
            bound = [(x, x.id) for x in ast.walk(tree) if isinstance(x, ast.Name) and isinstance(x.ctx, ast.Store)]
            bound += [(x, x.arg) for x in ast.walk(tree) if isinstance(x, ast.arg)]
            for node, name in bound:
                self.assertNotIn(name, top, place(path, node))
                self.assertNotIn(name, TAKEN, place(path, node))
                self.assertNotIn(name, BARRED_NAMES, place(path, node))
                self.assertRegex(name, r"^(_|_?[A-Za-z][A-Za-z0-9_]*)$", place(path, node))
            for node in ast.walk(tree):
                if isinstance(node, ast.Name) and isinstance(node.ctx, ast.Load) and node.id in TAKEN:
                    self.assertIn(node.id, BUILTINS, place(path, node))
                    self.assertNotEqual(node.id, "type", place(path, node))

    def test_functions_and_methods(self):
        for path, node in walk(ast.FunctionDef):
            self.assertNotIn(node.name, TAKEN, place(path, node))
            self.assertNotIn(node.name, BARRED_NAMES, place(path, node))
            if node.name.startswith("__"):
                self.assertIn(node.name, SPECIAL, place(path, node))
            for mark in node.decorator_list:
                self.assertEqual(ast.unparse(mark), "property", place(path, node))
            self.assertFalse([x for x in ast.walk(node) if x is not node and isinstance(x, ast.FunctionDef)])

    def test_called_methods_are_own_or_listed(self):
        own = {x.name for _, node in walk(ast.ClassDef) for x in node.body if isinstance(x, ast.FunctionDef)}
        attributes = {node.attr for _, node in walk(ast.Attribute) if isinstance(node.ctx, ast.Store)}
        for path, node in walk(ast.Call):
            if isinstance(node.func, ast.Attribute):
                self.assertIn(node.func.attr, own | METHODS, place(path, node))
        for path, node in walk(ast.Attribute):
            self.assertIn(node.attr, own | METHODS | attributes, place(path, node))

    def test_stars_stand_before_names(self):
        for path, node in walk(ast.Starred):
            self.assertIsInstance(node.value, ast.Name, place(path, node))
        for path, node in walk(ast.keyword):
            self.assertIsNotNone(node.arg, place(path, node))

    def test_keywords_of_builtins(self):
        allowed = {"sorted": {"key", "reverse"}, "max": {"default"}, "min": {"default"}}
        for path, node in walk(ast.Call):
            if isinstance(node.func, ast.Name) and node.func.id in BUILTINS:
                for keyword in node.keywords:
                    self.assertIn(keyword.arg, allowed.get(node.func.id, ()), place(path, node))
                    if keyword.arg == "key":
                        self.assertIn(ast.unparse(keyword.value), ("len", "int", "str", "abs", "sum"))

    def test_no_file_imports_itself_through_others(self):
        reached = {
            path.stem: {
                node.module.removeprefix("fivebases.") for node in tree.body
                if isinstance(node, ast.ImportFrom) and node.module not in OUTSIDE}
            for path, tree in trees()}
        for _ in reached:
            reached = {name: behind.union(*(reached[x] for x in behind)) for name, behind in reached.items()}
        for name, behind in reached.items():
            self.assertNotIn(name, behind)

    def test_own_errors_alone_are_caught(self):
        own = {"Fault", "ZeroDivisor", "Malformed", "Refused", "NoText"}
        for path, node in walk(ast.Try):
            self.assertFalse(node.finalbody + node.orelse, place(path, node))
        for path, node in walk(ast.ExceptHandler):
            self.assertIn(ast.unparse(node.type), own, place(path, node))

    def test_errors_are_made_where_they_are_raised(self):
        for path, node in walk(ast.Raise):
            self.assertIsInstance(node.exc, ast.Call, place(path, node))
            self.assertIsInstance(node.exc.func, ast.Name, place(path, node))
