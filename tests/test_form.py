"""The form of the package: the rules of LANGUAGE.md that can be seen line by line, and the interface."""

import ast
import builtins
import inspect
import pathlib
import re
import unittest

from farmates import errors, fronts, stretches

FOLDER = pathlib.Path(__file__).resolve().parent.parent / "farmates"
FILES = sorted(FOLDER.glob("*.py"))
MAY_CALL = set(
    "len range enumerate zip min max sum abs sorted reversed int str bool bytes list tuple dict set frozenset "
    "isinstance ord repr any all divmod Exception ValueError TypeError KeyError IndexError LookupError "
    "ZeroDivisionError ArithmeticError OverflowError RuntimeError NotImplementedError NotImplemented iter next".split()
)
DUNDERS = set("__init__ __eq__ __repr__ __str__ __len__ __enter__ __exit__ __call__ __iter__".split())
BARRED_WORDS = set(
    "type typing typing_extensions enum Enum IntEnum StrEnum Flag IntFlag Generic Protocol ABC ABCMeta namedtuple "
    "NamedTuple TypedDict TYPE_CHECKING abstractmethod".split()
)
BARRED_NAMES = set(
    "register mro elements open input version_info with_traceback add_note attrgetter breakpoint builtins compile "
    "copyright credits delattr dir eval exec exit gc getattr globals hasattr help id importlib license locals "
    "methodcaller os quit setattr super type vars sys".split()
)
BARRED_NODES = (
    ast.Global, ast.AsyncFunctionDef, ast.AsyncFor, ast.AsyncWith, ast.Await, ast.Div, ast.Import, ast.GeneratorExp,
)


def trees():
    return [(path.name, ast.parse(path.read_text(encoding="utf-8"))) for path in FILES]


def nodes(kind):
    return [(name, node) for name, tree in trees() for node in ast.walk(tree) if isinstance(node, kind)]


def classes():
    return [node for name, node in nodes(ast.ClassDef)]


class FilesTest(unittest.TestCase):
    def test_the_folder_holds_only_files_of_python(self):
        for path in FOLDER.iterdir():
            if path.name != "__pycache__":
                self.assertRegex(path.name, r"^(__init__|[a-z][a-z0-9_]*)\.py$")
        self.assertLessEqual(len(FILES), 100)

    def test_sizes_and_signs(self):
        for path in FILES:
            text = path.read_text(encoding="utf-8")
            self.assertRegex(text, r"^[ -~\n]*$", path.name)
            self.assertLessEqual(len(text.splitlines()), 400, path.name)
            self.assertLessEqual(max(len(line) for line in text.splitlines()), 120, path.name)
        for name, node in nodes(ast.FunctionDef):
            self.assertLessEqual(node.end_lineno - node.lineno + 1, 40, (name, node.name))

    def test_barred_words(self):
        for path in FILES:
            words = re.findall(r"\w+", path.read_text(encoding="utf-8"))
            self.assertEqual(BARRED_WORDS & set(words), set(), path.name)
            for part in ("dataclass", "overload", "contextmanager"):
                self.assertNotIn(part, path.read_text(encoding="utf-8"))


class RulesTest(unittest.TestCase):
    def test_imports(self):
        above = {}
        for name, node in nodes(ast.ImportFrom):
            self.assertRegex(node.module, r"^farmates\.[a-z]+$")
            self.assertEqual(node.level, 0)
            above.setdefault(name, set()).add(node.module.split(".")[1] + ".py")
        while above:
            # One that imports nothing that is left is always there where no two import each other.
            free = [name for name in above if not above[name] & set(above)]
            self.assertTrue(free, above)
            above = {name: above[name] for name in above if name not in free}

    def test_imported_names_are_of_their_own_file_and_used(self):
        for name, node in nodes(ast.ImportFrom):
            source = ast.parse((FOLDER / (node.module.split(".")[1] + ".py")).read_text(encoding="utf-8"))
            used = {n.id for n in ast.walk(dict(trees())[name]) if isinstance(n, ast.Name)}
            for alias in node.names:
                self.assertIn(alias.name, self.bound(source), (name, alias.name))
                self.assertIn(alias.name, used, (name, alias.name))

    def bound(self, tree):
        told = []
        for node in tree.body:
            if isinstance(node, (ast.FunctionDef, ast.ClassDef)):
                told.append(node.name)
            elif isinstance(node, ast.Assign):
                told.extend(target.id for target in node.targets)
            elif isinstance(node, ast.ImportFrom):
                continue
            else:
                self.assertIsInstance(node, ast.Expr)
                self.assertIsInstance(node.value, ast.Constant)
        return told

    def test_names_at_module_level_are_bound_once(self):
        for name, tree in trees():
            told = self.bound(tree)
            told += [alias.name for n in tree.body if isinstance(n, ast.ImportFrom) for alias in n.names]
            self.assertEqual(len(told), len(set(told)), name)

    def test_names(self):
        for name, tree in trees():
            barred = set(dir(builtins)) | {n.name for n in tree.body if isinstance(n, ast.ClassDef)}
            barred |= {alias.name for n in tree.body if isinstance(n, ast.ImportFrom) for alias in n.names}
            for node in ast.walk(tree):
                if isinstance(node, ast.Name):
                    told, bound = node.id, isinstance(node.ctx, ast.Store)
                elif isinstance(node, ast.arg):
                    told, bound = node.arg, True
                else:
                    continue
                self.assertFalse(told.startswith("_"), (name, told))
                self.assertFalse(bound and told in barred, (name, told))
                self.assertNotIn(told, BARRED_NAMES)
                self.assertTrue(told in MAY_CALL or not hasattr(builtins, told), (name, told))

    def test_functions_and_attributes(self):
        for name, node in nodes(ast.FunctionDef):
            self.assertTrue(node.name in DUNDERS or not node.name.startswith("_"), node.name)
            self.assertEqual(node.decorator_list, [])
            self.assertNotIn(node.name, BARRED_NAMES)
        for name, node in nodes(ast.Attribute):
            self.assertTrue(node.attr == "__init__" or not node.attr.startswith("_"), node.attr)

    def test_no_name_is_a_method_and_an_attribute(self):
        methods = {n.name for c in classes() for n in c.body if isinstance(n, ast.FunctionDef)}
        stored = {node.attr for name, node in nodes(ast.Attribute) if isinstance(node.ctx, ast.Store)}
        self.assertEqual(methods & stored, set())

    def test_barred_statements_and_expressions(self):
        self.assertEqual(nodes(BARRED_NODES), [])
        for name, node in nodes(ast.Constant):
            self.assertNotIsInstance(node.value, (float, complex))
            if isinstance(node.value, str):
                self.assertNotIn("%", node.value)
        for name, node in nodes(ast.Compare):
            for sign, right in zip(node.ops, node.comparators):
                if isinstance(sign, (ast.Is, ast.IsNot)):
                    self.assertIsInstance(right, ast.Constant, name)
                    self.assertIn(right.value, (None, True, False))
        for name, node in nodes(ast.BinOp):
            if isinstance(node.op, ast.Pow):
                self.assertIsInstance(node.right, ast.Constant)

    def test_raises_and_handlers(self):
        own = {node.name for node in classes()}
        for name, node in nodes(ast.Raise):
            self.assertTrue(node.exc is None or node.exc.func.id in own, name)
        for name, node in nodes(ast.ExceptHandler):
            self.assertIn(node.type.id, own)


class InterfaceTest(unittest.TestCase):
    def parameters(self, function):
        return list(inspect.signature(function).parameters)

    def test_stretches(self):
        for name, told in [
            ("need_length", ["number"]), ("is_mating", ["length", "mating"]), ("common", ["one", "other"]),
            ("normal", ["mating"]), ("back", ["mating"]), ("led", ["mating", "place"]),
            ("part", ["mating", "at", "many"]), ("after", ["first", "second"]), ("moved", ["mating", "by"]),
            ("swelled", ["mating", "times"]), ("clipped", ["mating", "length"]),
        ]:
            self.assertEqual(self.parameters(getattr(stretches, name)), told, name)

    def test_fronts(self):
        self.assertEqual(self.parameters(fronts.Front), ["length", "matings"])
        self.assertEqual(self.parameters(fronts.judge), ["length", "matings", "moves"])
        for name, told in [("top", []), ("left", []), ("make", ["move"]), ("led_on", []), ("twin", [])]:
            self.assertIn(name, vars(fronts.Front))
            self.assertEqual(self.parameters(getattr(fronts.Front, name)), ["self"] + told, name)

    def test_errors_stand_in_their_file(self):
        for node in classes():
            if hasattr(errors, node.name):
                self.assertEqual(getattr(errors, node.name).__module__, "farmates.errors")


if __name__ == "__main__":
    unittest.main()
