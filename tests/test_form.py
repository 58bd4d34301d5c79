"""The package keeps to its small part of Python, as far as the rows tell it at a glance."""

import ast
import builtins
import re
import unittest
from pathlib import Path

PACKAGE = Path(__file__).resolve().parent.parent / "tietable"
FILES = sorted(PACKAGE.rglob("*.py"))

ERRORS = """Exception ValueError TypeError KeyError IndexError LookupError ZeroDivisionError ArithmeticError
    OverflowError RuntimeError NotImplementedError AttributeError StopIteration""".split()
OWN_NAMES = """len range enumerate zip min max sum abs sorted reversed int str bool list tuple dict set frozenset
    isinstance ord repr any all divmod""".split() + ERRORS
OWN_METHODS = """append clear copy count endswith extend find get index insert isalnum isalpha isdigit islower
    isspace isupper items join keys ljust lower lstrip partition pop remove replace reverse rfind rjust rpartition
    rsplit rstrip setdefault split splitlines startswith strip update upper values zfill bit_length""".split()
UNUSED = """register mro elements open input version_info with_traceback add_note attrgetter breakpoint builtins
    compile copyright credits delattr dir eval exec exit gc getattr globals hasattr help id importlib license locals
    methodcaller os quit setattr super type vars sys""".split()
NO_WORDS = re.compile(r"\b(type|typing|typing_extensions|enum|Enum|IntEnum|StrEnum|Flag|IntFlag|Generic|Protocol|ABC"
                      r"|ABCMeta|namedtuple|NamedTuple|TypedDict|TYPE_CHECKING|abstractmethod)\b"
                      r"|dataclass|overload|contextmanager")
PLAIN = re.compile(r"[A-Za-z][A-Za-z0-9_]*\Z")
TWICE_UNDERSCORED = ["__init__", "__eq__", "__repr__", "__str__", "__len__"]
CHANGING = "append clear extend insert pop remove reverse setdefault update".split()
KEYWORDS = {"sorted": ("key", "reverse"), "min": ("key", "default"), "max": ("key", "default"),
            "sum": ("start",), "enumerate": ("start",), "zip": ("strict",)}

# Whatever isn't here is no part of the small language.
NODES = """Module Import ImportFrom alias FunctionDef ClassDef arguments arg Lambda Assign AugAssign If While For
    Return Break Continue Pass Raise Try ExceptHandler Expr Constant List Tuple Dict Set BinOp UnaryOp BoolOp Compare
    IfExp Call keyword Attribute Subscript Slice ListComp comprehension JoinedStr FormattedValue Name Load Store
    Add Sub Mult FloorDiv Mod Pow BitAnd BitOr BitXor LShift RShift Invert UAdd USub Not And Or
    Eq NotEq Lt LtE Gt GtE Is IsNot In NotIn""".split()


def trees():
    for path in FILES:
        yield path.name, ast.parse(path.read_text(encoding="ascii"))


def nodes_of(*kinds):
    for name, tree in trees():
        for node in ast.walk(tree):
            if isinstance(node, kinds):
                yield f"{name}:{node.lineno}", node


def defined_names(tree):
    """All names that a file binds, however it binds them."""
    for node in ast.walk(tree):
        if isinstance(node, (ast.FunctionDef, ast.ClassDef)):
            yield node.name
        elif isinstance(node, ast.arg):
            yield node.arg
        elif isinstance(node, ast.Name) and isinstance(node.ctx, ast.Store):
            yield node.id
        elif isinstance(node, ast.alias):
            yield node.asname or node.name
        elif isinstance(node, ast.ExceptHandler) and node.name:
            yield node.name


def drawn_from(tree):
    return [node for node in ast.walk(tree) if isinstance(node, ast.ImportFrom)]


def top_names(node):
    if isinstance(node, ast.ImportFrom):
        return [alias.asname or alias.name for alias in node.names]
    if isinstance(node, (ast.FunctionDef, ast.ClassDef)):
        return [node.name]
    if isinstance(node, ast.Assign):
        return [node.targets[0].id]
    return []


def is_walked_once(node):
    if not isinstance(node, ast.Call):
        return False
    if isinstance(node.func, ast.Name):
        return node.func.id in ("zip", "enumerate", "reversed", "range")
    return isinstance(node.func, ast.Attribute) and node.func.attr in ("items", "keys", "values")


def walks_at_once(node, child):
    if isinstance(node, (ast.For, ast.comprehension)):
        return node.iter is child
    if not isinstance(node, ast.Call) or child not in node.args:
        return False
    if isinstance(node.func, ast.Name):
        return node.func.id in ("list", "tuple", "dict", "sorted", "sum", "any", "all", "enumerate", "zip", "min", "max")
    return node.func.attr == "join"


class Files(unittest.TestCase):
    def test_nothing_but_plain_files_lies_in_the_package(self):
        self.assertIn(PACKAGE / "__init__.py", FILES)
        for path in PACKAGE.rglob("*"):
            if "__pycache__" not in path.parts:
                self.assertTrue(path.is_file() and re.match(r"[a-z_][a-z0-9_]*\.py\Z", path.name), path)
                self.assertFalse(path.stem.startswith("test") or path.stem in dir(builtins), path)

    def test_signs_and_sizes(self):
        for path in FILES:
            text = path.read_bytes()
            self.assertTrue(all(32 <= sign <= 126 or sign == 10 for sign in text), path)
            rows = text.decode("ascii").split("\n")
            self.assertLessEqual(len(rows), 401, path)
            self.assertLessEqual(max(len(row) for row in rows), 120, path)
            self.assertIsNone(NO_WORDS.search(text.decode("ascii")), path)

    def test_functions_are_small(self):
        for place, node in nodes_of(ast.FunctionDef):
            self.assertLessEqual(node.end_lineno - node.lineno + 1, 40, place)


class Language(unittest.TestCase):
    def test_only_the_small_part_stands_there(self):
        for name, tree in trees():
            for node in ast.walk(tree):
                self.assertIn(type(node).__name__, NODES, (name, getattr(node, "lineno", None)))

    def test_the_top_of_a_module(self):
        for name, tree in trees():
            for number, node in enumerate(tree.body):
                text = number == 0 and isinstance(node, ast.Expr) and isinstance(node.value, ast.Constant)
                self.assertTrue(text or isinstance(node, (ast.ImportFrom, ast.FunctionDef, ast.ClassDef, ast.Assign)),
                                (name, node.lineno))

    def test_imports(self):
        stems = [path.stem for path in FILES]
        for place, node in nodes_of(ast.Import, ast.ImportFrom):
            self.assertIsInstance(node, ast.ImportFrom, place)
            package, dot, stem = (node.module or "").partition(".")
            self.assertEqual((node.level, package, dot), (0, "tietable", "."), place)
            self.assertIn(stem, stems, place)
            self.assertTrue(all(PLAIN.match(alias.name) for alias in node.names), place)

    def test_imports_come_from_the_file_that_defines_the_name(self):
        tops = {f"tietable.{name[:-3]}": tree.body for name, tree in trees()}
        for place, node in nodes_of(ast.ImportFrom):
            made = [one.name for one in tops[node.module] if isinstance(one, (ast.FunctionDef, ast.ClassDef))]
            made += [one.targets[0].id for one in tops[node.module] if isinstance(one, ast.Assign)]
            for alias in node.names:
                self.assertIn(alias.name, made, place)

    def test_no_two_files_draw_from_one_another(self):
        left = {f"tietable.{name[:-3]}": {node.module for node in drawn_from(tree)} for name, tree in trees()}
        while left:
            done = [name for name, needed in left.items() if not needed & set(left)]
            self.assertTrue(done, left)
            for name in done:
                left.pop(name)

    def test_names(self):
        for name, tree in trees():
            for bound in defined_names(tree):
                self.assertTrue(PLAIN.match(bound) or bound in TWICE_UNDERSCORED, (name, bound))
                self.assertNotIn(bound, UNUSED, name)
                self.assertNotIn(bound, dir(builtins), name)

    def test_names_of_pythons_own(self):
        for name, tree in trees():
            known = set(defined_names(tree)) | set(OWN_NAMES)
            for node in ast.walk(tree):
                if isinstance(node, ast.Name):
                    self.assertIn(node.id, known, (name, node.lineno))

    def test_methods(self):
        made = {node.name for place, node in nodes_of(ast.FunctionDef)}
        for place, node in nodes_of(ast.Call):
            if isinstance(node.func, ast.Attribute):
                self.assertIn(node.func.attr, set(OWN_METHODS) | made | {"__init__"}, place)

    def test_functions_take_plain_parameters(self):
        for place, node in nodes_of(ast.FunctionDef, ast.Lambda):
            taken = node.args
            self.assertFalse(taken.vararg or taken.kwarg or taken.kwonlyargs or taken.posonlyargs, place)
            self.assertFalse(getattr(node, "decorator_list", []), place)

    def test_classes(self):
        for place, node in nodes_of(ast.ClassDef):
            self.assertFalse(node.decorator_list or node.keywords or len(node.bases) > 1, place)
            self.assertTrue(all(isinstance(one, (ast.FunctionDef, ast.Pass)) for one in node.body), place)

    def test_assignments_and_loops(self):
        for place, node in nodes_of(ast.Assign):
            self.assertEqual(len(node.targets), 1, place)
        for place, node in nodes_of(ast.For, ast.While):
            self.assertFalse(node.orelse, place)
        for place, node in nodes_of(ast.Try):
            self.assertFalse(node.finalbody, place)

    def test_expressions(self):
        for name, tree in trees():
            for node in ast.walk(tree):
                if isinstance(node, ast.ListComp):
                    self.assertTrue(len(node.generators) == 1 and len(node.generators[0].ifs) <= 1, (name, node.lineno))
                if isinstance(node, ast.FormattedValue):
                    self.assertTrue(isinstance(node.value, ast.Name) and node.format_spec is None, (name, node.lineno))
                if isinstance(node, ast.Constant):
                    self.assertIn(type(node.value), (int, str, bool, type(None)), (name, node.lineno))
                    self.assertFalse(isinstance(node.value, str) and "%" in node.value, (name, node.lineno))
                if isinstance(node, ast.Compare) and any(isinstance(op, (ast.Is, ast.IsNot)) for op in node.ops):
                    sides = [node.left] + node.comparators
                    self.assertTrue(any(isinstance(side, ast.Constant) and side.value in (None, True, False)
                                        for side in sides), (name, node.lineno))

    def test_sets_are_asked_on_the_spot(self):
        for name, tree in trees():
            for node in ast.walk(tree):
                for child in ast.iter_child_nodes(node):
                    if isinstance(child, ast.Call) and isinstance(child.func, ast.Name) and child.func.id == "set":
                        straight = isinstance(node, ast.Call) and getattr(node.func, "id", "") in ("sorted", "len")
                        self.assertTrue(straight or isinstance(node, (ast.Compare, ast.BinOp)), (name, child.lineno))

    def test_what_stands_by_itself_is_a_call(self):
        for name, tree in trees():
            texts = tree.body[:1]
            for node in ast.walk(tree):
                if isinstance(node, ast.Expr) and node not in texts:
                    self.assertIsInstance(node.value, ast.Call, (name, node.lineno))

    def test_powers_have_a_written_exponent(self):
        for place, node in nodes_of(ast.BinOp, ast.AugAssign):
            if isinstance(node.op, ast.Pow):
                exponent = node.right if isinstance(node, ast.BinOp) else node.value
                self.assertTrue(isinstance(exponent, ast.Constant) and 0 <= exponent.value <= 64, place)

    def test_each_top_name_once_and_no_local_like_an_import_or_a_class(self):
        for name, tree in trees():
            tops = [bound for node in tree.body for bound in top_names(node)]
            self.assertEqual(sorted(tops), sorted(set(tops)), name)
            taken = [bound for node in tree.body if isinstance(node, (ast.ImportFrom, ast.ClassDef))
                     for bound in top_names(node)]
            for node in ast.walk(tree):
                if isinstance(node, ast.FunctionDef):
                    for inner in ast.walk(node):
                        bound = getattr(inner, "arg", None) or (
                            inner.id if isinstance(inner, ast.Name) and isinstance(inner.ctx, ast.Store) else None)
                        if not isinstance(inner, ast.keyword):
                            self.assertNotIn(bound, taken, (name, node.name))

    def test_what_is_walked_is_walked_on_the_spot(self):
        for name, tree in trees():
            for node in ast.walk(tree):
                for child in ast.iter_child_nodes(node):
                    if is_walked_once(child):
                        self.assertTrue(walks_at_once(node, child), (name, child.lineno))

    def test_what_a_loop_walks_is_not_changed_in_it(self):
        for place, node in nodes_of(ast.For):
            walked = [one.id for one in ast.walk(node.iter) if isinstance(one, ast.Name)]
            for inner in ast.walk(ast.Module(body=node.body, type_ignores=[])):
                if isinstance(inner, ast.Call) and isinstance(inner.func, ast.Attribute):
                    changed = inner.func.attr in CHANGING and getattr(inner.func.value, "id", None) in walked
                    self.assertFalse(changed, place)
                if isinstance(inner, ast.Subscript) and isinstance(inner.ctx, ast.Store):
                    self.assertNotIn(getattr(inner.value, "id", None), walked, place)

    def test_keywords(self):
        for place, node in nodes_of(ast.Call):
            if isinstance(node.func, ast.Name) and node.func.id in OWN_NAMES:
                for keyword in node.keywords:
                    self.assertIn(keyword.arg, KEYWORDS.get(node.func.id, ()), place)
            if isinstance(node.func, ast.Attribute) and node.func.attr in OWN_METHODS:
                self.assertFalse(node.keywords, place)

    def test_lists_and_dicts_of_a_top_hold_none_themselves(self):
        for name, tree in trees():
            for node in tree.body:
                if isinstance(node, ast.Assign):
                    nested = [one for one in ast.walk(node.value) if isinstance(one, (ast.List, ast.Dict))]
                    self.assertFalse([one for one in nested if one is not node.value], (name, node.lineno))

    def test_errors_are_taken_by_the_names_of_the_programs_own(self):
        for place, node in nodes_of(ast.ExceptHandler):
            self.assertIsInstance(node.type, ast.Name, place)
            self.assertNotIn(node.type.id, ("Exception", "TypeError", "ValueError", "LookupError"), place)


if __name__ == "__main__":
    unittest.main()
