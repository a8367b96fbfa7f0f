"""The package keeps to its small subset of Python; this test is narrower than the rules
where that is simpler, so what it lets pass may be told by them all the same."""

import ast
import builtins
import os
import re
import unittest

ROOT = os.path.dirname(os.path.dirname(os.path.abspath(__file__)))
FOLDER = os.path.join(ROOT, "hintring")

NODES = """Module Expr Constant FunctionDef ClassDef arguments arg Return If For While Break Continue Pass Raise
Assign Name Load Store Del Delete Tuple List Dict ListComp DictComp SetComp comprehension Call Attribute Subscript Slice
BinOp UnaryOp BoolOp Compare IfExp And Or Not USub Invert Add Sub Mult FloorDiv Mod BitAnd BitOr BitXor LShift RShift
Eq NotEq Lt LtE Gt GtE Is IsNot In NotIn ImportFrom alias keyword JoinedStr FormattedValue Try ExceptHandler""".split()
BUILTINS = """len range enumerate zip min max sum abs sorted reversed int str bool list tuple dict set isinstance any
all ValueError LookupError""".split()
METHODS = """append get items keys values setdefault bit_length index insert count join split extend pop copy replace
zfill""".split()
NO_ATTRIBUTES = """items keys values pop update append clear extend insert remove reverse setdefault sort args encode decode hex
fromhex format as_integer_ratio bit_count conjugate from_bytes is_integer to_bytes""".split()
BARRED = """type typing typing_extensions enum Enum IntEnum StrEnum Flag IntFlag Generic Protocol ABC ABCMeta namedtuple
NamedTuple TypedDict TYPE_CHECKING abstractmethod register mro elements open input law version_info with_traceback
add_note""".split()


def files():
    return sorted(os.listdir(FOLDER))


def source(name):
    with open(os.path.join(FOLDER, name), encoding="utf-8", newline="") as file:
        return file.read()


def trees():
    return [(name, ast.parse(source(name))) for name in files()]


def without_docstrings(tree):
    """All nodes but the docstrings."""
    docs = set()
    for node in ast.walk(tree):
        if isinstance(node, (ast.Module, ast.FunctionDef, ast.ClassDef)) and node.body:
            first = node.body[0]
            if isinstance(first, ast.Expr) and isinstance(first.value, ast.Constant):
                docs |= {id(first), id(first.value)}
    return [node for node in ast.walk(tree) if id(node) not in docs]


def functions(tree):
    return [node for node in ast.walk(tree) if isinstance(node, ast.FunctionDef)]


def bound_in(function):
    """The names of the parameters and local variables of a function."""
    names = {one.arg for one in function.args.args}
    return names | {node.id for node in ast.walk(function)
                    if isinstance(node, ast.Name) and isinstance(node.ctx, ast.Store)}


class Language(unittest.TestCase):
    def test_files(self):
        for name in files():
            if name != "__pycache__":
                self.assertRegex(name, r"^(__init__|[a-z][a-z0-9_]*)\.py$")
        for name, text in ((name, source(name)) for name in files()):
            lines = text.split("\n")
            self.assertLessEqual(len(lines), 399, name)
            self.assertLessEqual(max(len(line) for line in lines), 120, name)
            self.assertEqual(re.sub(r"[ -~\n]", "", text), "", name)

    def test_functions_are_small(self):
        for name, tree in trees():
            for node in functions(tree):
                self.assertLessEqual(node.end_lineno - node.lineno + 1, 40, (name, node.name))
                self.assertEqual(node.decorator_list, [])
                self.assertEqual([one for one in ast.walk(node) if isinstance(one, ast.FunctionDef)], [node])
                given = node.args
                self.assertFalse(given.vararg or given.kwarg or given.kwonlyargs or given.posonlyargs)

    def test_only_plain_statements(self):
        for name, tree in trees():
            for node in without_docstrings(tree):
                self.assertIn(node.__class__.__name__, NODES, (name, getattr(node, "lineno", 0)))

    def test_module_level(self):
        for name, tree in trees():
            for node in tree.body[1:]:
                self.assertIsInstance(node, (ast.ImportFrom, ast.FunctionDef, ast.ClassDef, ast.Assign), name)
                if isinstance(node, ast.Assign):
                    self.assertIsInstance(node.targets[0], ast.Name)
                    self.check_table(name, tree, node)
            kinds = [isinstance(node, ast.ImportFrom) for node in tree.body[1:]]
            self.assertEqual(kinds, sorted(kinds, reverse=True), name)

    def check_table(self, name, tree, node):
        """What a name at module level is assigned is plain, or a table of functions above."""
        above = [one.name for one in tree.body[:tree.body.index(node)] if isinstance(one, ast.FunctionDef)]
        if isinstance(node.value, ast.Dict) and all(isinstance(worth, ast.Name) for worth in node.value.values):
            self.assertFalse({worth.id for worth in node.value.values} - set(above), name)
            self.assertTrue(all(isinstance(key, ast.Constant) for key in node.value.keys), name)
        else:
            ast.literal_eval(node.value)

    def test_tables_are_only_read(self):
        for name, tree in trees():
            tables = {node.targets[0].id for node in tree.body if isinstance(node, ast.Assign)
                      and isinstance(node.value, (ast.Dict, ast.List))}
            for function in functions(tree):
                good = {id(node.value) for node in ast.walk(function)
                        if isinstance(node, ast.Subscript) and isinstance(node.ctx, ast.Load)}
                good |= {id(right) for node in ast.walk(function) if isinstance(node, ast.Compare)
                         for sign, right in zip(node.ops, node.comparators) if isinstance(sign, (ast.In, ast.NotIn))}
                for node in ast.walk(function):
                    if isinstance(node, ast.Name) and node.id in tables:
                        self.assertIn(id(node), good, (name, node.lineno))
                    if isinstance(node, ast.Call):
                        self.assertIsInstance(node.func, (ast.Name, ast.Attribute), (name, node.lineno))

    def test_errors_are_own_ones(self):
        own = {node.name for node in ast.parse(source("errors.py")).body if isinstance(node, ast.ClassDef)}
        for name, tree in trees():
            for node in ast.walk(tree):
                if isinstance(node, ast.ExceptHandler):
                    self.assertIn(getattr(node.type, "id", None), own, name)
                if isinstance(node, ast.Try):
                    self.assertFalse(node.finalbody)
                if isinstance(node, ast.Raise):
                    self.assertIsInstance(node.exc, ast.Call, name)
                    self.assertIn(node.exc.func.id, own)

    def test_imports(self):
        defined = {name[:-3]: {node.name for node in tree.body if isinstance(node, (ast.FunctionDef, ast.ClassDef))}
                   | {node.targets[0].id for node in tree.body if isinstance(node, ast.Assign)}
                   for name, tree in trees()}
        above = {}
        for name, tree in trees():
            above[name[:-3]] = set()
            for node in tree.body:
                if isinstance(node, ast.ImportFrom):
                    self.assertEqual((node.level, node.module[:9]), (0, "hintring."), name)
                    above[name[:-3]].add(node.module[9:])
                    for one in node.names:
                        self.assertIsNone(one.asname)
                        self.assertIn(one.name, defined[node.module[9:]])
                        uses = [1 for use in ast.walk(tree) if isinstance(use, ast.Name) and use.id == one.name]
                        self.assertTrue(uses, (name, one.name))
        while above:
            ready = [name for name, needs in above.items() if not needs & set(above)]
            self.assertTrue(ready, f"files import from each other: {sorted(above)}")
            above = {name: needs for name, needs in above.items() if name not in ready}

    def test_names(self):
        for name, tree in trees():
            taken = {one.asname or one.name for node in tree.body if isinstance(node, ast.ImportFrom)
                     for one in node.names}
            kinds = {node.name for node in tree.body if isinstance(node, ast.ClassDef)}
            top = [node.name for node in tree.body if isinstance(node, (ast.FunctionDef, ast.ClassDef))]
            top += [node.targets[0].id for node in tree.body if isinstance(node, ast.Assign)]
            self.assertEqual(len(set(top + sorted(taken))), len(top) + len(taken), name)
            for function in functions(tree):
                bound = bound_in(function)
                self.assertFalse(bound & (taken | kinds | set(top)), (name, function.name, bound & set(top)))
                self.assertFalse((bound | {function.name}) & set(dir(builtins)) - {"__init__"}, (name, function.name))
                read = {node.id for node in ast.walk(function)
                        if isinstance(node, ast.Name) and isinstance(node.ctx, ast.Load)}
                self.assertFalse(read - bound - taken - set(top) - set(BUILTINS), (name, function.name))
                self.assertNotIn("_", read)

    def test_words(self):
        for name, tree in trees():
            for node in without_docstrings(tree):
                words = [getattr(node, "id", ""), getattr(node, "attr", ""), getattr(node, "arg", ""),
                         getattr(node, "name", "")]
                if isinstance(node, ast.Constant) and isinstance(node.value, str):
                    words += re.findall(r"\w+", node.value)
                    self.assertNotIn("%", node.value, name)
                self.assertFalse(set(words) & set(BARRED), (name, words))
            self.assertNotIn("_wall", source(name))

    def test_calls_and_comparisons(self):
        attributes = {node.attr for _, tree in trees() for node in ast.walk(tree)
                      if isinstance(node, ast.Attribute) and isinstance(node.ctx, ast.Store)}
        self.assertFalse(attributes & set(NO_ATTRIBUTES))
        methods = {one.name for _, tree in trees() for node in tree.body if isinstance(node, ast.ClassDef)
                   for one in node.body if isinstance(one, ast.FunctionDef)}
        self.assertFalse(methods & attributes)
        for name, tree in trees():
            for node in ast.walk(tree):
                if isinstance(node, ast.Attribute) and isinstance(node.ctx, ast.Store):
                    self.assertIsInstance(node.value, ast.Name)
                if isinstance(node, ast.Attribute) and node.attr != "__init__":
                    self.assertIn(node.attr, METHODS + sorted(attributes | methods), (name, node.lineno))
                if isinstance(node, ast.Compare):
                    for sign, right in zip(node.ops, node.comparators):
                        if isinstance(sign, (ast.Is, ast.IsNot)):
                            self.assertIsInstance(right, ast.Constant)
                            self.assertIn(right.value, (None, True, False))
                if isinstance(node, ast.BinOp):
                    self.assertNotIsInstance(node.op, (ast.Pow, ast.Div))
                if isinstance(node, ast.Constant):
                    self.assertNotIsInstance(node.value, (float, complex))

    def test_sets_are_only_sorted_or_counted(self):
        for name, tree in trees():
            good = set()
            for node in ast.walk(tree):
                if isinstance(node, ast.Call) and isinstance(node.func, ast.Name) and node.func.id in ("sorted", "len"):
                    good |= {id(one) for one in node.args} if not node.keywords else set()
            for node in ast.walk(tree):
                is_set = isinstance(node, ast.SetComp) or (
                    isinstance(node, ast.Call) and isinstance(node.func, ast.Name) and node.func.id == "set")
                if is_set:
                    self.assertIn(id(node), good, (name, node.lineno))

    def test_iterators_are_iterated_at_once(self):
        for name, tree in trees():
            heads = set()
            for node in ast.walk(tree):
                if isinstance(node, (ast.For, ast.comprehension)):
                    heads.add(id(node.iter))
                if isinstance(node, ast.Call) and isinstance(node.func, ast.Name) and node.func.id in (
                        "list", "tuple", "sorted", "enumerate", "reversed"):
                    heads |= {id(one) for one in node.args}
                if isinstance(node, ast.Assign) and isinstance(node.value, ast.Call) \
                        and isinstance(node.value.func, ast.Name) and node.value.func.id == "range":
                    heads.add(id(node.value))
            for node in ast.walk(tree):
                if isinstance(node, ast.Call) and isinstance(node.func, ast.Name) and node.func.id in (
                        "zip", "enumerate", "reversed", "range"):
                    self.assertIn(id(node), heads, (name, node.lineno))

    def test_what_a_loop_goes_over_is_not_changed(self):
        changing = ("append", "extend", "pop", "setdefault", "insert", "remove", "clear", "update")
        for name, tree in trees():
            for loop in [node for node in ast.walk(tree) if isinstance(node, ast.For)]:
                over = {node.id for node in ast.walk(loop.iter) if isinstance(node, ast.Name)}
                for row in loop.body:
                    for node in ast.walk(row):
                        if isinstance(node, ast.Call) and isinstance(node.func, ast.Attribute) \
                                and node.func.attr in changing and isinstance(node.func.value, ast.Name):
                            self.assertNotIn(node.func.value.id, over, (name, node.lineno))
                        if isinstance(node, ast.Subscript) and isinstance(node.ctx, (ast.Store, ast.Del)) \
                                and isinstance(node.value, ast.Name):
                            self.assertNotIn(node.value.id, over, (name, node.lineno))


if __name__ == "__main__":
    unittest.main()
