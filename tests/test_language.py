"""The rules of ../shared/LANGUAGE.md that can be seen in the package's files, by their numbers."""

import ast
import builtins
import pathlib
import re
import unittest

PACKAGE = pathlib.Path(__file__).resolve().parent.parent / "looprank"
FILES = sorted(PACKAGE.glob("*.py"))
TREES = {path.stem: ast.parse(path.read_text()) for path in FILES}

STATEMENTS = (
    ast.Module, ast.FunctionDef, ast.ClassDef, ast.Assign, ast.AugAssign, ast.If, ast.While, ast.For, ast.Return,
    ast.Break, ast.Continue, ast.Pass, ast.Raise, ast.Try, ast.ExceptHandler, ast.Expr, ast.ImportFrom, ast.alias,
)
EXPRESSIONS = (
    ast.Constant, ast.Name, ast.Attribute, ast.Subscript, ast.Slice, ast.Call, ast.keyword, ast.BinOp, ast.UnaryOp,
    ast.BoolOp, ast.Compare, ast.IfExp, ast.List, ast.Tuple, ast.Dict, ast.Set, ast.ListComp, ast.comprehension,
    ast.JoinedStr, ast.FormattedValue, ast.Lambda, ast.arguments, ast.arg, ast.expr_context, ast.boolop,
    ast.operator, ast.unaryop, ast.cmpop,
)
BUILT_IN = """len range enumerate zip min max sum abs sorted reversed int str bool list tuple dict set frozenset
    isinstance ord repr any all divmod ValueError KeyError IndexError LookupError ZeroDivisionError ArithmeticError
    OverflowError RuntimeError NotImplementedError StopIteration""".split()
METHODS = """append clear copy count endswith extend find get index insert isalnum isalpha isdigit islower isspace
    isupper items join keys ljust lower lstrip partition pop remove replace reverse rfind rjust rpartition rsplit
    rstrip setdefault split splitlines startswith strip update upper values zfill bit_length""".split()
DUNDERS = "__init__ __eq__ __repr__ __str__ __len__".split()
WORDS_OUT = re.compile(
    r"\b(type|typing|typing_extensions|enum|Enum|IntEnum|StrEnum|Flag|IntFlag|Generic|Protocol|ABC|ABCMeta|namedtuple"
    r"|NamedTuple|TypedDict|TYPE_CHECKING|abstractmethod)\b|dataclass|overload|contextmanager"
)
NAMES_OUT = "register mro elements open input version_info with_traceback add_note".split()
VALUES_OUT = """items keys values pop update append clear extend insert remove reverse setdefault sort args encode
    format""".split()
FREE_VALUES = "count index title find get join lower upper split strip copy add".split()
WALKED = "zip enumerate reversed range items keys values".split()
WALKERS = "list tuple dict sorted sum any all enumerate zip".split()
CHANGES = "append clear extend insert pop remove reverse setdefault update".split()
KEYWORDS = {
    "sorted": ("key", "reverse"), "min": ("key", "default"), "max": ("key", "default"), "sum": ("start",),
    "enumerate": ("start",), "zip": ("strict",),
}


def nodes(kind):
    return [(stem, node) for stem, tree in TREES.items() for node in ast.walk(tree) if isinstance(node, kind)]


def drawn_from(stem):
    return [node.module.split(".")[1] for node in TREES[stem].body if isinstance(node, ast.ImportFrom)]


def called(node):
    """The name or the method that is called, of any other node None."""
    if not isinstance(node, ast.Call):
        return None
    return node.func.attr if isinstance(node.func, ast.Attribute) else getattr(node.func, "id", None)


def parents(kind):
    """Nodes of a kind, each with the node in which it stands."""
    pairs = [(stem, outer, node) for stem, tree in TREES.items() for outer in ast.walk(tree)
             for node in ast.iter_child_nodes(outer)]
    return [pair for pair in pairs if isinstance(pair[2], kind)]


def is_walked_at_once(outer, node):
    if isinstance(outer, (ast.For, ast.comprehension)):
        return node is outer.iter
    if called(outer) in WALKERS:
        return node is outer.args[0]
    if called(outer) in ("min", "max"):
        return outer.args == [node]
    return called(outer) == "join" and isinstance(outer.func.value, ast.Constant)


def names_walked(node):
    """The names that a loop walks, itself or through enumerate, zip, reversed or items."""
    if isinstance(node, ast.Name):
        return [node.id]
    if called(node) in ("enumerate", "zip", "reversed"):
        return [name for part in node.args for name in names_walked(part)]
    return names_walked(node.func.value) if called(node) in ("items", "keys", "values") else []


def names_changed(body):
    found = []
    for node in [part for statement in body for part in ast.walk(statement)]:
        if isinstance(node, ast.Subscript) and isinstance(node.ctx, ast.Store):
            found.append(ast.unparse(node.value))
        if called(node) in CHANGES and isinstance(node.func, ast.Attribute):
            found.append(ast.unparse(node.func.value))
    return found


def methods_defined():
    return {part.name for stem, node in nodes(ast.ClassDef) for part in node.body if isinstance(part, ast.FunctionDef)}


def classes_defined():
    return {node.name for stem, node in nodes(ast.ClassDef)}


def is_plain(node, above, outer=None):
    """Whether this is a value that may stand at a file's top: a dict or list in no other, functions only from above."""
    if isinstance(node, ast.Constant):
        return isinstance(node.value, (int, str)) or node.value is None
    if isinstance(node, ast.Name):
        return node.id in above
    if isinstance(node, ast.Tuple):
        return all([is_plain(part, above, node) for part in node.elts])
    if outer is not None:
        return False
    if isinstance(node, ast.List):
        return all([is_plain(part, above, node) for part in node.elts])
    return isinstance(node, ast.Dict) and all([is_plain(part, above, node) for part in node.keys + node.values])


def is_only_read(outer, node):
    """Whether a list or dict of a file's top is asked with an index, a walk, in, ==, len or get, or copied."""
    if isinstance(outer, ast.Subscript):
        return node is outer.value and isinstance(outer.ctx, ast.Load)
    if isinstance(outer, (ast.For, ast.comprehension)):
        return node is outer.iter
    if isinstance(outer, ast.Attribute):
        return outer.attr in ("get", "items", "keys", "values", "index", "count", "copy")
    return isinstance(outer, ast.Compare) or called(outer) in ("len", "sorted", "list", "dict", "zip", "enumerate")


def names_at_top(stem):
    found = []
    for node in TREES[stem].body:
        if isinstance(node, ast.ImportFrom):
            found += [name.name for name in node.names]
        if isinstance(node, (ast.FunctionDef, ast.ClassDef)):
            found.append(node.name)
        if isinstance(node, ast.Assign):
            found.append(node.targets[0].id)
    return found


def names_within(stem):
    """Parameters and locals, and functions within functions."""
    found = []
    methods = methods_defined()
    for top in TREES[stem].body:
        for node in ast.walk(top):
            if isinstance(node, ast.Name) and isinstance(node.ctx, ast.Store) and not isinstance(top, ast.Assign):
                found.append(node.id)
            if isinstance(node, ast.arg):
                found.append(node.arg)
            if isinstance(node, ast.FunctionDef) and node is not top and node.name not in methods:
                found.append(node.name)
            if isinstance(node, ast.ExceptHandler) and node.name:
                found.append(node.name)
    return found


class Language(unittest.TestCase):
    def test_l1_only_python_files(self):
        for path in PACKAGE.iterdir():
            if path.name != "__pycache__":
                self.assertRegex(path.name, r"^[a-z][a-z0-9_]*\.py$|^__(init|main)__\.py$")

    def test_l2_l16_imports(self):
        for stem, node in nodes((ast.Import, ast.ImportFrom)):
            self.assertIsInstance(node, ast.ImportFrom)
            self.assertIn(node, TREES[stem].body)
            self.assertRegex(node.module, r"^looprank\.[a-z0-9_]+$")
            source = node.module.split(".")[1]
            drawn = [name.name for part in TREES[source].body if isinstance(part, ast.ImportFrom) for name in part.names]
            for name in node.names:
                self.assertIn(name.name, names_at_top(source), stem)
                self.assertNotIn(name.name, drawn, stem)
                self.assertIsNone(name.asname)

    def test_l16_no_two_files_draw_from_one_another(self):
        for stem in TREES:
            seen = []
            left = drawn_from(stem)
            while left:
                other = left.pop()
                self.assertNotEqual(other, stem)
                if other not in seen:
                    seen.append(other)
                    left.extend(drawn_from(other))

    def test_l3_the_top_of_a_file(self):
        for stem, tree in TREES.items():
            self.assertIsNotNone(ast.get_docstring(tree), stem)
            for node in tree.body[1:]:
                self.assertIsInstance(node, (ast.ImportFrom, ast.FunctionDef, ast.ClassDef, ast.Assign), stem)

    def test_l3_l15_values_at_the_top_are_plain(self):
        for stem, tree in TREES.items():
            above = []
            for node in tree.body:
                if isinstance(node, ast.FunctionDef):
                    above.append(node.name)
                if isinstance(node, ast.Assign):
                    self.assertTrue(is_plain(node.value, above), (stem, node.lineno))

    def test_l15_lists_and_dicts_of_the_top_are_only_read(self):
        kept = {}
        for stem, tree in TREES.items():
            kept[stem] = [node.targets[0].id for node in tree.body
                          if isinstance(node, ast.Assign) and isinstance(node.value, (ast.List, ast.Dict))]
        self.assertTrue(any(kept.values()))
        every = [name for names in kept.values() for name in names]
        for stem, outer, node in parents(ast.Name):
            if node.id in every and not isinstance(node.ctx, ast.Store):
                self.assertTrue(is_only_read(outer, node), (stem, node.lineno))

    def test_l4_l21_functions(self):
        for stem, node in nodes((ast.FunctionDef, ast.Lambda)):
            given = node.args
            self.assertFalse(given.vararg or given.kwarg or given.kwonlyargs or given.posonlyargs, (stem, node.lineno))
            self.assertFalse(getattr(node, "decorator_list", []) or getattr(node, "returns", None))
            self.assertFalse([part for part in given.args if part.annotation])

    def test_l5_classes(self):
        for stem, node in nodes(ast.ClassDef):
            self.assertFalse(node.decorator_list or node.keywords or len(node.bases) > 1, (stem, node.name))
            self.assertIn(node, TREES[stem].body)
            for part in node.body:
                self.assertIsInstance(part, (ast.FunctionDef, ast.Pass), (stem, node.name))

    def test_l6_l7_statements_and_expressions(self):
        for stem, node in nodes(ast.AST):
            self.assertIsInstance(node, STATEMENTS + EXPRESSIONS, (stem, getattr(node, "lineno", 0)))
            self.assertNotIsInstance(node, (ast.Div, ast.MatMult), stem)
            if isinstance(node, ast.Constant):
                self.assertNotIsInstance(node.value, (float, bytes, complex), (stem, node.lineno))
        for stem, node in nodes((ast.For, ast.While)):
            self.assertEqual(node.orelse, [], (stem, node.lineno))
        for stem, node in nodes(ast.Try):
            self.assertEqual(node.finalbody, [], (stem, node.lineno))
        for stem, node in nodes(ast.Assign):
            self.assertEqual(len(node.targets), 1, (stem, node.lineno))
        for stem, node in nodes(ast.ListComp):
            self.assertEqual(len(node.generators), 1, (stem, node.lineno))
            self.assertLessEqual(len(node.generators[0].ifs), 1, (stem, node.lineno))
        for stem, node in nodes(ast.FormattedValue):
            self.assertIsInstance(node.value, ast.Name, (stem, node.lineno))

    def test_l8_l17_names_of_pythons_own(self):
        for stem, node in nodes(ast.Name):
            if hasattr(builtins, node.id):
                self.assertIn(node.id, BUILT_IN, (stem, node.lineno))
            self.assertNotIn(node.id, NAMES_OUT, (stem, node.lineno))

    def test_l12_l15_l17_names(self):
        for stem in TREES:
            for name in names_at_top(stem) + names_within(stem):
                self.assertRegex(name, r"^[A-Za-z][A-Za-z0-9_]*$", stem)
                self.assertFalse(hasattr(builtins, name), (stem, name))
                self.assertNotIn(name, NAMES_OUT, stem)
            self.assertEqual(set(names_at_top(stem)) & set(names_within(stem)), set(), stem)
        for name in methods_defined():
            self.assertTrue(name in DUNDERS or re.match(r"^[A-Za-z][A-Za-z0-9_]*$", name), name)
            self.assertNotIn(name, NAMES_OUT)

    def test_l15_each_name_once_at_the_top(self):
        for stem in TREES:
            self.assertEqual(sorted(names_at_top(stem)), sorted(set(names_at_top(stem))), stem)

    def test_l10_sizes(self):
        for path in FILES:
            rows = path.read_text().split("\n")
            self.assertLessEqual(len(rows), 400, path.name)
            self.assertLessEqual(max([len(row) for row in rows]), 120, path.name)
        for stem, node in nodes(ast.FunctionDef):
            self.assertLessEqual(node.end_lineno - node.lineno + 1, 40, (stem, node.name))

    def test_l14_signs(self):
        for path in FILES:
            for sign in path.read_bytes():
                self.assertTrue(sign == 10 or 32 <= sign <= 126, path.name)

    def test_l17_words_that_stand_nowhere(self):
        for path in FILES:
            self.assertIsNone(WORDS_OUT.search(path.read_text()), path.name)

    def test_l18_methods_and_values_are_called_otherwise(self):
        stored = {node.attr for stem, node in nodes(ast.Attribute) if isinstance(node.ctx, ast.Store)}
        self.assertEqual(methods_defined() & stored, set())
        self.assertEqual(stored & set(VALUES_OUT), set())

    def test_l18_classes_are_called_or_stood_under(self):
        classes = classes_defined()
        for stem, outer, node in parents(ast.Name):
            if node.id in classes:
                called_here = isinstance(outer, ast.Call) and node is outer.func
                named = isinstance(outer, (ast.ClassDef, ast.ExceptHandler)) or called(outer) == "isinstance"
                before_init = isinstance(outer, ast.Attribute) and outer.attr == "__init__"
                self.assertTrue(called_here or named or before_init, (stem, node.lineno))

    def test_l18_no_method_stands_twice(self):
        for stem, node in nodes(ast.ClassDef):
            names = [part.name for part in node.body if isinstance(part, ast.FunctionDef)]
            self.assertEqual(sorted(names), sorted(set(names)), (stem, node.name))

    def test_l18_values_are_given_through_a_local_name(self):
        for stem, node in nodes(ast.Attribute):
            if isinstance(node.ctx, ast.Store):
                self.assertIsInstance(node.value, ast.Name, (stem, node.lineno))
                self.assertNotIn(node.value.id, names_at_top(stem), (stem, node.lineno))

    def test_l19_errors_taken(self):
        for stem, node in nodes(ast.ExceptHandler):
            self.assertIsNotNone(node.type, (stem, node.lineno))
            self.assertNotIn(ast.unparse(node.type), ("Exception", "TypeError"), (stem, node.lineno))
        for stem, node in nodes(ast.Raise):
            self.assertIsInstance(node.exc, ast.Call, (stem, node.lineno))

    def test_l20_is(self):
        for stem, node in nodes(ast.Compare):
            for operator, right in zip(node.ops, node.comparators):
                if isinstance(operator, (ast.Is, ast.IsNot)):
                    self.assertIn(ast.unparse(right), ("None", "True", "False"), (stem, node.lineno))

    def test_l22_keywords(self):
        for stem, node in nodes(ast.Call):
            if hasattr(builtins, called(node) or "") or called(node) in METHODS:
                for keyword in node.keywords:
                    self.assertIn(keyword.arg, KEYWORDS.get(called(node), ()), (stem, node.lineno))

    def test_l22_called_and_not_kept(self):
        for stem, outer, node in parents(ast.Name):
            if node.id in BUILT_IN and not isinstance(getattr(builtins, node.id), type):
                self.assertIsInstance(outer, (ast.Call, ast.keyword), (stem, node.lineno))

    def test_l23_walked_at_once(self):
        for stem, outer, node in parents(ast.Call):
            if called(node) in WALKED:
                self.assertTrue(is_walked_at_once(outer, node), (stem, node.lineno))

    def test_l23_what_a_loop_walks_is_not_changed_in_it(self):
        for stem, node in nodes(ast.For):
            self.assertEqual(set(names_walked(node.iter)) & set(names_changed(node.body)), set(), (stem, node.lineno))

    def test_l24_sets(self):
        for stem, outer, node in parents((ast.Call, ast.Set)):
            if isinstance(node, ast.Set) or called(node) in ("set", "frozenset"):
                asked = isinstance(outer, ast.Compare) or called(outer) in ("sorted", "len") and not outer.keywords
                self.assertTrue(asked or isinstance(outer, ast.BinOp), (stem, node.lineno))

    def test_l25_methods(self):
        known = methods_defined() | set(METHODS) | {"__init__"}
        for stem, node in nodes(ast.Call):
            if isinstance(node.func, ast.Attribute):
                self.assertIn(node.func.attr, known, (stem, node.lineno))

    def test_l26_own_methods_and_values(self):
        taken = {name for kind in (str, int, list, dict, set, bytes, tuple) for name in dir(kind)}
        stored = {node.attr for stem, node in nodes(ast.Attribute) if isinstance(node.ctx, ast.Store)}
        self.assertEqual(methods_defined() & taken - set(METHODS) - set(DUNDERS) - {"add", "discard"}, set())
        self.assertEqual(stored & taken - set(FREE_VALUES), set())

    def test_l28_init_gives_back_nothing(self):
        for stem, node in nodes(ast.FunctionDef):
            if node.name == "__init__":
                self.assertFalse([part for part in ast.walk(node) if isinstance(part, ast.Return)], stem)
            self.assertNotIn(node.name, ("__eq__", "__repr__", "__str__", "__len__"), stem)

    def test_l27_numbers_and_texts(self):
        for stem, node in nodes(ast.BinOp):
            if isinstance(node.op, ast.Pow):
                self.assertIsInstance(node.right, ast.Constant, (stem, node.lineno))
        for stem, node in nodes(ast.Constant):
            if isinstance(node.value, str):
                self.assertNotIn("%", node.value, (stem, node.lineno))


if __name__ == "__main__":
    unittest.main()
