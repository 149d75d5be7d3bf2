"""Checks that the package keeps to its subset of Python, as far as a short test can see it."""

import ast
import builtins
import re
import unittest
from pathlib import Path

FOLDER = Path(__file__).resolve().parent.parent / "addednames"
TREES = {path.stem: ast.parse(path.read_text()) for path in sorted(FOLDER.glob("*.py"))}
NODES = [(name, node) for name, tree in TREES.items() for node in ast.walk(tree)]

BUILTINS = """len range enumerate zip min max sum abs sorted reversed int str bool bytes list tuple dict set frozenset
    isinstance ord repr any all divmod Exception ValueError TypeError KeyError IndexError LookupError
    ZeroDivisionError ArithmeticError OverflowError RuntimeError NotImplementedError NotImplemented property
    staticmethod super iter next map""".split()
METHODS = """append clear copy count endswith extend find get index insert isalnum isalpha isdigit islower isspace
    isupper items join keys ljust lower lstrip partition pop remove replace reverse rfind rjust rpartition rsplit
    rstrip setdefault split splitlines startswith strip update upper values zfill add discard""".split()
SIGNS = """init eq repr str len enter exit call iter lt le gt ge ne add sub mul and or xor radd rsub rand ror rxor
    neg pos invert bool contains getitem setitem""".split()
BARRED = """typing typing_extensions enum Enum IntEnum StrEnum Flag IntFlag Generic Protocol ABC ABCMeta namedtuple
    NamedTuple TypedDict TYPE_CHECKING abstractmethod dataclass overload contextmanager register mro elements open
    input law Meta""".split()
COMPREHENSIONS = (ast.ListComp, ast.SetComp, ast.DictComp)
STATEMENTS = (
    ast.AsyncFunctionDef, ast.AsyncFor, ast.AsyncWith, ast.Await, ast.Global, ast.Import, ast.AnnAssign,
    ast.NamedExpr, ast.Div, ast.Lambda, ast.GeneratorExp,
)


def docstrings(tree):
    for node in ast.walk(tree):
        if isinstance(node, (ast.Module, ast.ClassDef, ast.FunctionDef)) and ast.get_docstring(node) is not None:
            yield node.body[0].value


def defined(tree):
    found = []
    for node in tree.body:
        if isinstance(node, (ast.FunctionDef, ast.ClassDef)):
            found.append(node.name)
        if isinstance(node, ast.Assign):
            found.extend(target.id for target in node.targets)
    return found


def is_function(node):
    return isinstance(node, ast.FunctionDef)


def imports(tree):
    return [node for node in tree.body if isinstance(node, ast.ImportFrom)]


class FilesTest(unittest.TestCase):
    def test_the_folder_holds_files_of_python_alone(self):
        for path in FOLDER.iterdir():
            self.assertTrue(path.suffix == ".py" or path.name == "__pycache__", path)
        self.assertIn("__init__", TREES)

    def test_characters_and_sizes(self):
        for path in FOLDER.glob("*.py"):
            text = path.read_text()
            self.assertRegex(text, r"\A[ -~\n]*\Z", path)
            lines = text.split("\n")
            self.assertLessEqual(len(lines), 399, path)
            self.assertLessEqual(max(len(line) for line in lines), 120, path)
            for word in BARRED:
                self.assertIsNone(re.search(rf"\b{word}\b", text), f"{word} in {path}")

    def test_functions_have_at_most_40_lines(self):
        for name, node in NODES:
            if isinstance(node, ast.FunctionDef):
                self.assertLessEqual(node.end_lineno - node.lineno + 1, 40, f"{name}.{node.name}")


class ImportsTest(unittest.TestCase):
    def test_from_the_file_that_defines_the_name(self):
        for name, tree in TREES.items():
            for node in imports(tree):
                package, _, file = node.module.partition(".")
                self.assertEqual((package, node.level), ("addednames", 0), name)
                for alias in node.names:
                    self.assertIsNone(alias.asname, name)
                    self.assertIn(alias.name, defined(TREES[file]), name)

    def test_at_the_top_alone(self):
        for name, node in NODES:
            if isinstance(node, ast.ImportFrom):
                self.assertIn(node, TREES[name].body)

    def test_no_two_files_import_from_each_other(self):
        below = {name: {node.module.partition(".")[2] for node in imports(tree)} for name, tree in TREES.items()}
        while below:
            free = [name for name in below if not below[name] & set(below)]
            self.assertTrue(free, below)
            for name in free:
                del below[name]

    def test_each_import_is_used(self):
        for name, tree in TREES.items():
            used = {node.id for node in ast.walk(tree) if isinstance(node, ast.Name)}
            for node in imports(tree):
                for alias in node.names:
                    self.assertIn(alias.name, used, name)


class RowsTest(unittest.TestCase):
    def test_module_level(self):
        for name, tree in TREES.items():
            for node in tree.body[1:]:
                self.assertIsInstance(node, (ast.ImportFrom, ast.FunctionDef, ast.ClassDef, ast.Assign), name)
                if isinstance(node, ast.Assign):
                    self.check_value(name, node)
            names = [*defined(tree), *(alias.name for node in imports(tree) for alias in node.names)]
            self.assertEqual(len(names), len(set(names)), name)

    def check_value(self, name, node):
        """Plain values, and dicts from strings to functions that are defined above."""
        if not isinstance(node.value, ast.Dict) or not all(isinstance(part, ast.Name) for part in node.value.values):
            ast.literal_eval(node.value)
            return
        above = {part.name for part in TREES[name].body if getattr(part, "lineno", 0) < node.lineno and is_function(part)}
        for key, part in zip(node.value.keys, node.value.values):
            self.assertIsInstance(key.value, str, name)
            self.assertIn(part.id, above, name)

    def test_statements(self):
        for name, node in NODES:
            self.assertNotIsInstance(node, STATEMENTS, f"{name}, line {getattr(node, 'lineno', '?')}")
            if isinstance(node, ast.ExceptHandler):
                self.assertIsNotNone(node.type, name)
            if isinstance(node, ast.Raise) and node.exc is not None:
                self.assertIsInstance(node.exc, ast.Call, name)

    def test_is_stands_beside_none_true_and_false(self):
        for name, node in NODES:
            if isinstance(node, ast.Compare):
                for sign, side in zip(node.ops, node.comparators):
                    if isinstance(sign, (ast.Is, ast.IsNot)):
                        self.assertIn(getattr(side, "value", 0), (None, True, False), f"{name}, line {node.lineno}")

    def test_values(self):
        for name, tree in TREES.items():
            told = list(docstrings(tree))
            for node in ast.walk(tree):
                if isinstance(node, ast.Constant) and node not in told:
                    self.assertIsInstance(node.value, (int, str, type(None)), name)
                    if isinstance(node.value, str):
                        self.assertNotIn("%", node.value)
                        self.assertNotEqual(node.value, "type")

    def test_sets_are_measured_or_sorted_alone(self):
        for name, tree in TREES.items():
            told = []
            for node in ast.walk(tree):
                if isinstance(node, ast.Call) and getattr(node.func, "id", "") in ("len", "sorted"):
                    told.extend(node.args)
            for node in ast.walk(tree):
                made = isinstance(node, ast.Call) and getattr(node.func, "id", "") in ("set", "frozenset")
                if made or isinstance(node, (ast.Set, ast.SetComp)):
                    self.assertIn(node, told, f"{name}, line {node.lineno}")

    def test_iterators_are_iterated_at_once(self):
        for name, tree in TREES.items():
            told = [node.iter for node in ast.walk(tree) if isinstance(node, (ast.For, ast.comprehension))]
            for node in ast.walk(tree):
                if isinstance(node, ast.Call) and getattr(node.func, "id", "") in ("list", "tuple", "sorted", "enumerate"):
                    told.extend(node.args)
            for node in ast.walk(tree):
                if isinstance(node, ast.Call):
                    called = getattr(node.func, "id", getattr(node.func, "attr", ""))
                    if called in ("range", "enumerate", "zip", "reversed", "items", "keys", "values"):
                        self.assertIn(node, told, f"{name}, line {node.lineno}")


    def test_no_augmented_assignment(self):
        for name, node in NODES:
            self.assertNotIsInstance(node, ast.AugAssign, name)

    def test_what_is_sorted_is_plainly_numbers_or_strings(self):
        # A class of the package has an order, so the key has to tell of what kind the items are.
        for name, node in NODES:
            if isinstance(node, ast.Call) and getattr(node.func, "id", "") in ("sorted", "min", "max"):
                keys = [ast.unparse(word.value) for word in node.keywords if word.arg == "key"]
                self.assertEqual(len(keys), 1, f"{name}, line {node.lineno}")
                self.assertIn(keys[0], ("str", "int", "len"), f"{name}, line {node.lineno}")

    def test_stars_of_calls_stand_before_names(self):
        for name, node in NODES:
            if isinstance(node, ast.Call):
                for value in [*node.args, *[ast.Starred(word.value) for word in node.keywords if word.arg is None]]:
                    if isinstance(value, ast.Starred):
                        self.assertIsInstance(value.value, ast.Name, f"{name}, line {node.lineno}")

    def test_generators_are_iterated_at_once(self):
        made = []
        for _, node in NODES:
            if isinstance(node, ast.FunctionDef) and any(isinstance(part, ast.Yield) for part in ast.walk(node)):
                made.append(node.name)
        told = [node.iter for _, node in NODES if isinstance(node, (ast.For, ast.comprehension))]
        for _, node in NODES:
            if isinstance(node, ast.Call) and getattr(node.func, "id", "") in ("list", "tuple", "enumerate"):
                told.extend(node.args)
        for name, node in NODES:
            if isinstance(node, ast.Call) and getattr(node.func, "id", "") in made:
                self.assertIn(node, told, f"{name}, line {node.lineno}")

    def test_comprehensions_in_others_have_names_of_their_own(self):
        for name, node in NODES:
            if isinstance(node, ast.FunctionDef):
                own = stored(node.body, COMPREHENSIONS) | {part.arg for part in node.args.args}
                for part in ast.walk(node):
                    if isinstance(part, COMPREHENSIONS):
                        self.check_inner(f"{name}, line {part.lineno}", part, own | assigned(part))

    def check_inner(self, where, outer, around):
        for inner in ast.walk(outer):
            if isinstance(inner, COMPREHENSIONS) and inner is not outer:
                self.assertFalse(assigned(inner) & around, where)


def assigned(comprehension):
    """The names that a comprehension itself assigns."""
    return stored([part.target for part in comprehension.generators], ())


def stored(nodes, barred):
    """The names that are assigned in some nodes, but not below those of the barred kinds."""
    found = set()
    for node in nodes:
        if isinstance(node, ast.Name) and isinstance(node.ctx, ast.Store):
            found.add(node.id)
        if not isinstance(node, barred):
            found |= stored(ast.iter_child_nodes(node), barred)
    return found


class NamesTest(unittest.TestCase):
    def test_builtins(self):
        known = dir(builtins)
        for name, node in NODES:
            if isinstance(node, ast.Name) and isinstance(node.ctx, ast.Load) and node.id in known:
                self.assertIn(node.id, BUILTINS, name)
            bound = []
            if isinstance(node, ast.Name) and isinstance(node.ctx, ast.Store):
                bound = [node.id]
            if isinstance(node, ast.arg):
                bound = [node.arg]
            for word in bound:
                self.assertNotIn(word, known, name)
                self.assertFalse(word.startswith("__"), name)

    def test_functions_and_classes_have_no_name_of_a_builtin(self):
        for name, tree in TREES.items():
            for word in defined(tree):
                self.assertNotIn(word, dir(builtins), name)

    def test_no_local_name_is_the_name_of_an_import_or_a_class(self):
        for name, tree in TREES.items():
            outer = [alias.name for node in imports(tree) for alias in node.names]
            outer.extend(node.name for node in tree.body if isinstance(node, ast.ClassDef))
            for node in ast.walk(tree):
                word = getattr(node, "arg", None) if isinstance(node, ast.arg) else None
                if isinstance(node, ast.Name) and isinstance(node.ctx, ast.Store):
                    word = node.id
                self.assertNotIn(word, outer, name)

    def test_methods_that_are_called(self):
        own = {node.name for _, node in NODES if isinstance(node, ast.FunctionDef)}
        for name, node in NODES:
            if isinstance(node, ast.Call) and isinstance(node.func, ast.Attribute):
                self.assertIn(node.func.attr, own | set(METHODS), f"{name}, line {node.lineno}")

    def test_parameters_are_plain(self):
        for name, node in NODES:
            if isinstance(node, ast.FunctionDef):
                self.assertFalse(node.returns or node.args.posonlyargs, name)
                for value in [*node.args.defaults, *node.args.kw_defaults]:
                    if value is not None:
                        self.assertIsInstance(ast.literal_eval(value), (int, str, bytes, tuple, type(None)), name)


def is_setter(node):
    return [ast.unparse(sign) for sign in node.decorator_list] == [f"{node.name}.setter"]


def asks_for_none(test):
    """Whether a test asks nothing but whether names and attributes are None."""
    if isinstance(test, ast.BoolOp):
        return all(asks_for_none(part) for part in test.values)
    if isinstance(test, ast.UnaryOp):
        return isinstance(test.op, ast.Not) and asks_for_none(test.operand)
    if not isinstance(test, ast.Compare) or len(test.ops) != 1 or not isinstance(test.ops[0], (ast.Is, ast.IsNot)):
        return False
    asked, wanted = test.left, test.comparators[0]
    while isinstance(asked, ast.Attribute):
        asked = asked.value
    return isinstance(asked, ast.Name) and isinstance(wanted, ast.Constant) and wanted.value is None


class ClassesTest(unittest.TestCase):
    def test_methods(self):
        for name, node in NODES:
            if isinstance(node, ast.ClassDef):
                self.assertEqual(node.decorator_list, [], name)
                signs = [part.name for part in node.body if is_function(part) and not is_setter(part)]
                self.assertEqual(len(signs), len(set(signs)), f"{name}.{node.name}")
                for word in signs:
                    if word.startswith("__"):
                        self.assertIn(word.strip("_"), SIGNS, f"{name}.{node.name}")
                if "__getitem__" in signs:
                    self.assertIn("__iter__", signs, f"{name}.{node.name}")

    def test_decorators(self):
        for name, node in NODES:
            if isinstance(node, ast.FunctionDef):
                for sign in node.decorator_list:
                    self.assertIn(ast.unparse(sign), ("property", "staticmethod", f"{node.name}.setter"), name)

    def test_the_rows_of_exit_methods(self):
        for name, node in NODES:
            if isinstance(node, ast.FunctionDef) and node.name == "__exit__":
                for part in ast.walk(node):
                    if isinstance(part, ast.stmt) and part is not node:
                        self.assertIsInstance(part, (ast.Assign, ast.If, ast.Pass, ast.Return), name)
                    self.assertNotIsInstance(part, (ast.Call, ast.BinOp, ast.Subscript), name)

    def test_what_exit_methods_and_finally_blocks_ask(self):
        # Classes of the package have __eq__ and __len__, so that nothing is asked but whether something is None.
        rows = []
        for _, node in NODES:
            if is_function(node) and node.name == "__exit__":
                rows.extend(node.body)
            if isinstance(node, ast.Try):
                rows.extend(node.finalbody)
        for row in rows:
            for part in ast.walk(row):
                self.assertNotIsInstance(part, ast.IfExp, ast.unparse(row))
                if isinstance(part, ast.If):
                    self.assertTrue(asks_for_none(part.test), ast.unparse(part.test))

    def test_that_other_questions_are_found(self):
        for text in ("self.a is None or kind is not None", "not a is None", "not (a is None and self.b.c is not None)"):
            self.assertTrue(asks_for_none(ast.parse(text, mode="eval").body), text)
        for text in ("self.a", "not self.a or kind is not None", "a == 1", "a is True", "a", "a() is None", "None is a",
                     "a is None is not None", "a[0] is None", "a is b"):
            self.assertFalse(asks_for_none(ast.parse(text, mode="eval").body), text)

    def test_no_name_is_a_method_and_an_attribute_of_one_class(self):
        for name, node in NODES:
            if isinstance(node, ast.ClassDef):
                methods = [part.name for part in node.body if isinstance(part, ast.FunctionDef)]
                for part in ast.walk(node):
                    if isinstance(part, ast.Attribute) and isinstance(part.ctx, ast.Store):
                        self.assertNotIn(part.attr, methods, f"{name}.{node.name}")


if __name__ == "__main__":
    unittest.main()
