"""The form of the package: the rules of LANGUAGE.md that can be seen line by line, and the interface."""

import ast
import builtins
import inspect
import pathlib
import re
import unittest

from farmates import boards, desk, errors, foldings, fronts, hall, pages, papers, roads, stretches, words

FOLDER = pathlib.Path(__file__).resolve().parent.parent / "farmates"
FILES = sorted(FOLDER.glob("*.py"))
MAY_CALL = set(
    "len range enumerate zip min max sum abs sorted reversed int str bool bytes list tuple dict set frozenset "
    "isinstance ord repr any all divmod Exception ValueError TypeError KeyError IndexError LookupError "
    "ZeroDivisionError ArithmeticError OverflowError RuntimeError NotImplementedError NotImplemented iter next".split()
)
MAY_DO = set(
    "append clear copy count endswith extend find get index insert isalnum isalpha isdigit islower isspace isupper items "
    "join keys ljust lower lstrip partition pop remove replace reverse rfind rjust rpartition rsplit rstrip setdefault "
    "split splitlines startswith strip update upper values zfill bit_length __init__".split()
)
CHANGING = set("append clear extend insert pop remove reverse setdefault update".split())
DUNDERS = set("__init__ __eq__ __repr__ __str__ __len__ __enter__ __exit__ __call__ __iter__".split())
BARRED_WORDS = set(
    "type typing typing_extensions enum Enum IntEnum StrEnum Flag IntFlag Generic Protocol ABC ABCMeta namedtuple "
    "NamedTuple TypedDict TYPE_CHECKING abstractmethod".split()
)
BARRED_NAMES = set(
    "register mro elements open input version_info with_traceback add_note attrgetter breakpoint builtins compile "
    "copyright credits delattr dir eval exec exit gc getattr globals hasattr help id importlib license locals "
    "methodcaller os quit setattr super type vars sys".split()
)
BARRED_NODES = (
    ast.Global, ast.AsyncFunctionDef, ast.AsyncFor, ast.AsyncWith, ast.Await, ast.Div, ast.Import, ast.GeneratorExp,
)


def trees():
    return [(path.name, ast.parse(path.read_text(encoding="utf-8"))) for path in FILES]


def nodes(kind):
    return [(name, node) for name, tree in trees() for node in ast.walk(tree) if isinstance(node, kind)]


def classes():
    return [node for name, node in nodes(ast.ClassDef)]


class FilesTest(unittest.TestCase):
    def test_the_folder_holds_only_files_of_python(self):
        for path in FOLDER.iterdir():
            if path.name != "__pycache__":
                self.assertRegex(path.name, r"^(__init__|[a-z][a-z0-9_]*)\.py$")
        self.assertLessEqual(len(FILES), 100)

    def test_sizes_and_signs(self):
        for path in FILES:
            text = path.read_text(encoding="utf-8")
            self.assertRegex(text, r"^[ -~\n]*$", path.name)
            self.assertLessEqual(len(text.splitlines()), 400, path.name)
            self.assertLessEqual(max(len(line) for line in text.splitlines()), 120, path.name)
        for name, node in nodes(ast.FunctionDef):
            self.assertLessEqual(node.end_lineno - node.lineno + 1, 40, (name, node.name))

    def test_barred_words(self):
        for path in FILES:
            words = re.findall(r"\w+", path.read_text(encoding="utf-8"))
            self.assertEqual(BARRED_WORDS & set(words), set(), path.name)
            for part in ("dataclass", "overload", "contextmanager"):
                self.assertNotIn(part, path.read_text(encoding="utf-8"))


class RulesTest(unittest.TestCase):
    def test_imports(self):
        above = {}
        for name, node in nodes(ast.ImportFrom):
            self.assertRegex(node.module, r"^farmates\.[a-z]+$")
            self.assertEqual(node.level, 0)
            above.setdefault(name, set()).add(node.module.split(".")[1] + ".py")
        while above:
            # One that imports nothing that is left is always there where no two import each other.
            free = [name for name in above if not above[name] & set(above)]
            self.assertTrue(free, above)
            above = {name: above[name] for name in above if name not in free}

    def test_imported_names_are_of_their_own_file_and_used(self):
        for name, node in nodes(ast.ImportFrom):
            source = ast.parse((FOLDER / (node.module.split(".")[1] + ".py")).read_text(encoding="utf-8"))
            used = {n.id for n in ast.walk(dict(trees())[name]) if isinstance(n, ast.Name)}
            for alias in node.names:
                self.assertIn(alias.name, self.bound(source), (name, alias.name))
                self.assertIn(alias.name, used, (name, alias.name))

    def bound(self, tree):
        told = []
        for node in tree.body:
            if isinstance(node, (ast.FunctionDef, ast.ClassDef)):
                told.append(node.name)
            elif isinstance(node, ast.Assign):
                told.extend(target.id for target in node.targets)
            elif isinstance(node, ast.ImportFrom):
                continue
            else:
                self.assertIsInstance(node, ast.Expr)
                self.assertIsInstance(node.value, ast.Constant)
        return told

    def test_names_at_module_level_are_bound_once(self):
        for name, tree in trees():
            told = self.bound(tree)
            told += [alias.name for n in tree.body if isinstance(n, ast.ImportFrom) for alias in n.names]
            self.assertEqual(len(told), len(set(told)), name)

    def test_names(self):
        for name, tree in trees():
            barred = set(dir(builtins)) | {n.name for n in tree.body if isinstance(n, ast.ClassDef)}
            barred |= {alias.name for n in tree.body if isinstance(n, ast.ImportFrom) for alias in n.names}
            for node in ast.walk(tree):
                if isinstance(node, ast.Name):
                    told, bound = node.id, isinstance(node.ctx, ast.Store)
                elif isinstance(node, ast.arg):
                    told, bound = node.arg, True
                else:
                    continue
                self.assertFalse(told.startswith("_"), (name, told))
                self.assertFalse(bound and told in barred, (name, told))
                self.assertNotIn(told, BARRED_NAMES)
                self.assertTrue(told in MAY_CALL or not hasattr(builtins, told), (name, told))

    def test_functions_and_attributes(self):
        for name, node in nodes(ast.FunctionDef):
            self.assertTrue(node.name in DUNDERS or not node.name.startswith("_"), node.name)
            self.assertEqual(node.decorator_list, [])
            self.assertNotIn(node.name, BARRED_NAMES)
        for name, node in nodes(ast.Attribute):
            self.assertTrue(node.attr == "__init__" or not node.attr.startswith("_"), node.attr)

    def test_no_name_is_a_method_and_an_attribute(self):
        methods = {n.name for c in classes() for n in c.body if isinstance(n, ast.FunctionDef)}
        stored = {node.attr for name, node in nodes(ast.Attribute) if isinstance(node.ctx, ast.Store)}
        self.assertEqual(methods & stored, set())

    def test_methods_that_are_called(self):
        own = {n.name for c in classes() for n in c.body if isinstance(n, ast.FunctionDef)}
        for name, node in nodes(ast.Call):
            if isinstance(node.func, ast.Attribute):
                self.assertIn(node.func.attr, own | MAY_DO, name)

    def test_attributes_that_are_read_are_assigned(self):
        own = {n.name for c in classes() for n in c.body if isinstance(n, ast.FunctionDef)}
        stored = {node.attr for name, node in nodes(ast.Attribute) if isinstance(node.ctx, ast.Store)}
        for name, node in nodes(ast.Attribute):
            self.assertIn(node.attr, own | stored | MAY_DO, name)
        # An attribute of these names would be taken for the method of a builtin value.
        self.assertEqual(stored & MAY_DO, set())

    def test_default_values_are_plain(self):
        plain = {n.targets[0].id for name, tree in trees() for n in tree.body
                 if isinstance(n, ast.Assign) and isinstance(n.value, ast.Constant)}
        for name, node in nodes(ast.arguments):
            for told in node.defaults + [default for default in node.kw_defaults if default is not None]:
                self.assertTrue(isinstance(told, ast.Constant) or told.id in plain, name)

    def test_lists_and_dicts_at_module_level_are_only_read(self):
        tables = {n.targets[0].id for name, tree in trees() for n in tree.body
                  if isinstance(n, ast.Assign) and isinstance(n.value, (ast.List, ast.Dict))}
        self.assertTrue(tables)
        for name, tree in trees():
            above = {child: node for node in ast.walk(tree) for child in ast.iter_child_nodes(node)}
            for node in ast.walk(tree):
                if isinstance(node, ast.Name) and node.id in tables and isinstance(node.ctx, ast.Load):
                    use = above[node]
                    # By an index, by a method that reads, or behind in.
                    reads = isinstance(use, ast.Attribute) and use.attr in ("get", "items", "keys", "values")
                    reads |= isinstance(use, ast.Subscript) and isinstance(use.ctx, ast.Load)
                    reads |= isinstance(use, ast.Compare) and isinstance(use.ops[0], (ast.In, ast.NotIn))
                    self.assertTrue(reads, (name, node.lineno))
        for name, tree in trees():
            for n in tree.body:
                if isinstance(n, ast.Assign):
                    inner = [part for part in ast.walk(n.value) if isinstance(part, (ast.List, ast.Dict)) and part != n.value]
                    self.assertEqual(inner, [], name)

    def test_double_underscore_methods(self):
        for name, node in nodes(ast.FunctionDef):
            if node.name in ("__eq__", "__repr__", "__str__", "__len__"):
                self.assertIsInstance(node.body[-1], ast.Return)
                self.assertEqual([n for n in ast.walk(node) if isinstance(n, (ast.Assign, ast.AugAssign, ast.Delete))], [])
            if node.name == "__len__":
                self.assertEqual(node.body[-1].value.func.id, "len")
            if node.name == "__init__":
                self.assertEqual([n for n in ast.walk(node) if isinstance(n, ast.Return)], [])

    def test_finally_does_little(self):
        for name, node in nodes(ast.Try):
            for row in node.finalbody:
                self.assertIsInstance(row, (ast.AugAssign, ast.Assign), name)
                self.assertIsInstance(row.value, (ast.Constant, ast.Name, ast.Attribute))

    def test_stars_in_calls_stand_ahead_of_names(self):
        for name, node in nodes(ast.Call):
            for told in node.args:
                if isinstance(told, ast.Starred):
                    self.assertIsInstance(told.value, ast.Name, name)

    def test_no_sort_in_place_and_no_keywords_for_methods_of_values(self):
        for name, node in nodes(ast.Call):
            if isinstance(node.func, ast.Attribute):
                self.assertNotEqual(node.func.attr, "sort", name)
                self.assertTrue(node.func.attr not in MAY_DO - {"__init__"} or not node.keywords, name)

    def test_what_loops_iterate_over_is_not_changed_in_them(self):
        for name, loop in nodes(ast.For):
            over = {ast.unparse(node) for node in ast.walk(loop.iter) if isinstance(node, (ast.Name, ast.Attribute))}
            for row in loop.body:
                for node in ast.walk(row):
                    if isinstance(node, ast.Call) and isinstance(node.func, ast.Attribute) and node.func.attr in CHANGING:
                        self.assertNotIn(ast.unparse(node.func.value), over, (name, loop.lineno))
                    if isinstance(node, ast.Subscript) and not isinstance(node.ctx, ast.Load):
                        self.assertNotIn(ast.unparse(node.value), over, (name, loop.lineno))

    def test_barred_statements_and_expressions(self):
        self.assertEqual(nodes(BARRED_NODES), [])
        for name, node in nodes(ast.Constant):
            self.assertNotIsInstance(node.value, (float, complex))
            if isinstance(node.value, str):
                self.assertNotIn("%", node.value)
        for name, node in nodes(ast.Compare):
            for sign, right in zip(node.ops, node.comparators):
                if isinstance(sign, (ast.Is, ast.IsNot)):
                    self.assertIsInstance(right, ast.Constant, name)
                    self.assertIn(right.value, (None, True, False))
        for name, node in nodes(ast.BinOp):
            if isinstance(node.op, ast.Pow):
                self.assertIsInstance(node.right, ast.Constant)

    def test_raises_and_handlers(self):
        own = {node.name for node in classes()}
        for name, node in nodes(ast.Raise):
            self.assertTrue(node.exc is None or node.exc.func.id in own, name)
        for name, node in nodes(ast.ExceptHandler):
            for told in node.type.elts if isinstance(node.type, ast.Tuple) else [node.type]:
                self.assertIn(told.id, own)


class InterfaceTest(unittest.TestCase):
    """Names, arguments and defaults, as the interface of DOC.md writes them."""

    def told(self, function):
        return str(inspect.signature(function))

    def check_functions(self, module, *written):
        for line in written:
            name = line.split("(")[0]
            self.assertEqual(name + self.told(getattr(module, name)), line)
            self.assertEqual(getattr(module, name).__module__, module.__name__)

    def check_class(self, kind, made, *written):
        self.assertEqual(kind.__name__ + self.told(kind), made)
        for line in written:
            name = line.split("(")[0]
            # Each method stands in the class itself.
            self.assertIn(name, vars(kind))
            self.assertEqual(name + self.told(getattr(kind, name)), line.replace("(", "(self, ").replace(", )", ")"))

    def test_stretches(self):
        self.check_functions(
            stretches, "need_length(number)", "is_mating(length, mating)", "common(one, other)", "normal(mating)",
            "back(mating)", "led(mating, place)", "part(mating, at, many)", "after(first, second)", "moved(mating, by)",
            "swelled(mating, times)", "clipped(mating, length)",
        )
        self.assertEqual((stretches.FAR, stretches.MOST), (10 ** 18, 24))

    def test_fronts(self):
        self.check_functions(fronts, "judge(length, matings, moves)")
        self.check_class(fronts.Front, "Front(length, matings)", "top()", "left()", "make(move)", "led_on()", "twin()")

    def test_foldings(self):
        self.check_functions(foldings, "fold(length, matings)")
        self.check_class(
            foldings.Folding, "Folding(length, matings, *, moves=None)", "moves()", "count()", "least(place)",
            "trail(place)", "size(place)", "rank(place)", "family(number)", "spans()", "sizes()", "meeting(at, many)",
            "inside(place, at, many)",
        )

    def test_papers(self):
        self.check_functions(
            papers, "kin_paper(length, matings, one, other)", "judge_kin(length, matings, one, other, paper)",
        )

    def test_roads(self):
        self.check_class(
            roads.Road, "Road(length=0)", "mate(one, other, many, *, turned=0)", "strike(number)", "grow(more)",
            "trim(length)", "swell(times)", "behind(other)", "length()", "matings()", "count()", "least(place)",
            "size(place)", "rank(place)", "family(number)", "spans()", "sizes()", "meeting(at, many)",
            "inside(place, at, many)", "moves()", "trail(place)", "kin(one, other)",
            "implies(one, other, many, *, turned=0)", "alike(other)", "turned_about()", "folded()", "keeps()", "twin()",
            "__eq__(other)", "__repr__()",
        )

    def test_words(self):
        self.check_functions(
            words, "copy_of(one, other, many)", "mirror(at, many)", "period(at, many, step)",
            "most_letters(length, matings)", "least_word(length, matings)", "spelled(road, at, many)",
            "is_period(road, step)",
        )
        self.assertEqual(words.LONGEST, 300)

    def test_boards(self):
        self.check_class(
            boards.Board, "Board(cells)", "cells()", "sides()", "rim()", "corners()", "flipped(side)", "__len__()",
            "__eq__(other)",
        )
        self.check_class(
            boards.Loops, "Loops(board, counts)", "counts()", "board_now()", "road()", "start(side)", "curves()", "loops()",
            "arcs()", "flip(side)", "times(k)", "twin()",
        )
        self.assertEqual((boards.CELLS, boards.DEEP), (8, 10 ** 15))

    def test_hall(self):
        self.check_class(
            hall.Hall, "Hall(*, most=6)", "do(deed)", "together(deeds)", "undo()", "redo()", "names()", "road(name)", "ask(name)",
            "folded(name)", "keeps(name)", "steps()", "twin()", "__len__()", "__eq__(other)", "__repr__()",
        )
        self.assertEqual(hall.ROADS, 6)

    def test_pages(self):
        self.check_functions(pages, "page(hall)", "read_page(text, *, most=6)")

    def test_desk(self):
        self.check_class(desk.Desk, "Desk(hall)", "say(line)", "log()")
        self.assertEqual(sorted({"hall", "depth"} & set(vars(desk.Desk(hall.Hall())))), ["depth", "hall"])

    def test_errors_stand_in_their_file(self):
        for node in classes():
            if hasattr(errors, node.name):
                self.assertEqual(getattr(errors, node.name).__module__, "farmates.errors")


if __name__ == "__main__":
    unittest.main()
