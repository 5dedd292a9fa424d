"""The rules of the language: each test names the rules, by number, that it holds the files of the package to."""

import ast
import builtins
import os
import re
import unittest
import warnings

PACKAGE = "whens"
FOLDER = os.path.join(os.path.dirname(os.path.dirname(os.path.abspath(__file__))), PACKAGE)

CALLABLE = set("""len range enumerate zip min max sum abs sorted reversed int str bool bytes list tuple dict set frozenset
    isinstance ord repr any all divmod""".split())
ERRORS = set("""Exception ValueError TypeError KeyError IndexError LookupError ZeroDivisionError ArithmeticError
    OverflowError RuntimeError NotImplementedError AttributeError StopIteration""".split())
METHODS = set("""append clear copy count endswith extend find get index insert isalnum isalpha isdigit islower isspace
    isupper items join keys ljust lower lstrip partition pop remove replace reverse rfind rjust rpartition rsplit rstrip
    setdefault split splitlines startswith strip update upper values zfill bit_length title capitalize swapcase casefold
    center expandtabs removeprefix removesuffix rindex isascii isdecimal isnumeric istitle isidentifier isprintable
    add discard sort""".split())
BARRED_NAMES = set("""register mro elements open input version_info with_traceback add_note attrgetter breakpoint builtins
    compile copyright credits delattr dir eval exec exit gc getattr globals hasattr help id importlib license locals
    methodcaller os quit setattr super type vars sys chr print""".split())
BARRED_WORDS = set("""type typing typing_extensions enum Enum IntEnum StrEnum Flag IntFlag Generic Protocol ABC ABCMeta
    namedtuple NamedTuple TypedDict TYPE_CHECKING abstractmethod""".split())
BARRED_PARTS = ("dataclass", "overload", "contextmanager")
BARRED_FILES = set("test tests testing site conftest sitecustomize usercustomize".split())
DUNDERS = set("__init__ __eq__ __repr__ __str__ __len__".split())
STATEMENTS = (
    ast.Assign, ast.AugAssign, ast.AnnAssign, ast.If, ast.While, ast.For, ast.Return, ast.Break, ast.Continue, ast.Pass,
    ast.Raise, ast.Assert, ast.Delete, ast.Try, ast.Expr, ast.FunctionDef, ast.ClassDef, ast.ImportFrom,
)
BARRED_NODES = (ast.GeneratorExp, ast.NamedExpr, ast.Yield, ast.YieldFrom, ast.Await, ast.Div, ast.MatMult)
AT_ONCE = set("zip enumerate reversed range".split())
SETS_STAND_IN = set("sorted len".split())


def is_docstring(node):
    return isinstance(node, ast.Expr) and isinstance(node.value, ast.Constant) and isinstance(node.value.value, str)


def is_plain_value(node, functions):
    """What a module-level name may be assigned (L3, L15)."""
    if isinstance(node, ast.Constant):
        return node.value is None or isinstance(node.value, (int, str, bytes))
    if isinstance(node, ast.Name):
        return node.id in functions
    if isinstance(node, ast.UnaryOp):
        return isinstance(node.op, ast.USub) and is_plain_value(node.operand, ())
    if isinstance(node, ast.BinOp):
        return is_plain_value(node.left, functions) and is_plain_value(node.right, functions)
    if isinstance(node, (ast.Tuple, ast.List)):
        return all(is_plain_value(part, functions) for part in node.elts)
    if isinstance(node, ast.Dict):
        inner = list(node.keys) + list(node.values)
        return all(not isinstance(part, (ast.List, ast.Dict)) and is_plain_value(part, functions) for part in inner)
    return False


class Source:
    """A file of the package, read once."""

    def __init__(self, name):
        with open(os.path.join(FOLDER, name), encoding="utf-8", newline="") as file:
            self.text = file.read()
        self.name = name
        with warnings.catch_warnings():
            warnings.simplefilter("error")
            self.tree = ast.parse(self.text, name)
        self.nodes = list(ast.walk(self.tree))
        self.parents = {child: node for node in self.nodes for child in ast.iter_child_nodes(node)}

    def of(self, *kinds):
        return [node for node in self.nodes if isinstance(node, kinds)]

    def imported(self):
        return [alias.asname or alias.name for node in self.of(ast.ImportFrom) for alias in node.names]

    def bound(self):
        """The names that are bound at module level, each time."""
        found = []
        for node in self.tree.body:
            if isinstance(node, (ast.FunctionDef, ast.ClassDef)):
                found.append(node.name)
            if isinstance(node, ast.Assign):
                found.extend(target.id for target in node.targets)
        return found + self.imported()

    def local_names(self):
        """Parameters, targets and nested functions."""
        top = set(self.tree.body)
        found = [node.arg for node in self.of(ast.arg)]
        found += [node.id for node in self.of(ast.Name)
                  if not isinstance(node.ctx, ast.Load) and self.parents[node] not in top]
        return found + [node.name for node in self.of(ast.FunctionDef)
                        if isinstance(self.parents[node], ast.FunctionDef)]


def sources():
    return [Source(name) for name in sorted(os.listdir(FOLDER)) if name.endswith(".py")]


class Language(unittest.TestCase):
    @classmethod
    def setUpClass(cls):
        cls.files = sources()

    def bad(self, rule, file, node):
        self.fail(f"{rule}: {file.name}, line {getattr(node, 'lineno', node)}")

    def test_files_l1_l14(self):
        names = [name for name in os.listdir(FOLDER) if name != "__pycache__"]
        self.assertIn("__init__.py", names)
        self.assertLessEqual(len(names), 100)
        for name in names:
            self.assertRegex(name, r"\A[a-z0-9_]+\.py\Z")
            stem = name[:-3]
            self.assertNotIn(stem, BARRED_FILES | BARRED_WORDS)
            self.assertFalse(hasattr(builtins, stem) and stem != "__init__", name)
            self.assertFalse(stem.startswith(("test_", "law_")), name)

    def test_characters_and_sizes_l10_l14_l27(self):
        for file in self.files:
            self.assertRegex(file.text, r"\A[ -~\n]*\Z", file.name)
            lines = file.text.split("\n")
            self.assertLessEqual(len(lines), 400, file.name)
            for at, line in enumerate(lines):
                self.assertLessEqual(len(line), 120, (file.name, at + 1))
            for node in file.of(ast.FunctionDef):
                self.assertLessEqual(node.end_lineno - node.lineno + 1, 40, (file.name, node.name))
            for node in file.of(ast.Constant):
                if isinstance(node.value, (str, bytes)):
                    self.assertNotIn("%", str(node.value), (file.name, node.lineno))
                if isinstance(node.value, (float, complex)) or node.value is ...:
                    self.bad("L7", file, node)

    def test_words_l17(self):
        for file in self.files:
            words = set(re.findall(r"[A-Za-z_]+", file.text))
            self.assertFalse(words & BARRED_WORDS, file.name)
            for part in BARRED_PARTS:
                self.assertNotIn(part, file.text, file.name)

    def test_imports_l2_l16(self):
        defined = {file.name: set(file.bound()) - set(file.imported()) for file in self.files}
        leads = {file.name: set() for file in self.files}
        for file in self.files:
            self.assertFalse(file.of(ast.Import), file.name)
            for node in file.of(ast.ImportFrom):
                if node.level or node.module is None or not node.module.startswith(PACKAGE + "."):
                    self.bad("L2", file, node)
                target = node.module.split(".", 1)[1] + ".py"
                leads[file.name].add(target)
                for alias in node.names:
                    self.assertIn(alias.name, defined.get(target, ()), (file.name, node.lineno))
        for name in leads:
            reached, todo = set(), list(leads[name])
            while todo:
                other = todo.pop()
                if other not in reached:
                    reached.add(other)
                    todo.extend(leads[other])
            self.assertNotIn(name, reached, "L16")

    def test_module_level_l3_l15(self):
        for file in self.files:
            functions, seen_code = set(), False
            for at, node in enumerate(file.tree.body):
                if at == 0 and is_docstring(node):
                    continue
                if isinstance(node, ast.ImportFrom):
                    self.assertFalse(seen_code, (file.name, node.lineno))
                    continue
                seen_code = True
                if isinstance(node, ast.FunctionDef):
                    functions.add(node.name)
                elif isinstance(node, ast.Assign):
                    right = len(node.targets) == 1 and isinstance(node.targets[0], ast.Name)
                    if not right or not is_plain_value(node.value, functions):
                        self.bad("L3", file, node)
                elif not isinstance(node, ast.ClassDef):
                    self.bad("L3", file, node)
            self.assertEqual(len(file.bound()), len(set(file.bound())), file.name)

    def test_functions_l4(self):
        for file in self.files:
            for node in file.of(ast.FunctionDef, ast.Lambda):
                plain = node.args
                if plain.vararg or plain.kwarg or plain.posonlyargs or getattr(node, "decorator_list", None):
                    self.bad("L4", file, node)
                for value in plain.defaults + [value for value in plain.kw_defaults if value is not None]:
                    if not isinstance(value, (ast.Constant, ast.UnaryOp, ast.Tuple, ast.Name)):
                        self.bad("L4", file, node)

    def test_classes_l5_l18_l28(self):
        methods, fields = set(), set()
        for file in self.files:
            for node in file.of(ast.ClassDef):
                if len(node.bases) > 1 or node.keywords or node.decorator_list or node not in file.tree.body:
                    self.bad("L5", file, node)
                for at, part in enumerate(node.body):
                    if not isinstance(part, ast.FunctionDef) and not (at == 0 and is_docstring(part)):
                        self.bad("L5", file, part)
                    if isinstance(part, ast.FunctionDef):
                        if part.name.startswith("__") and part.name not in DUNDERS:
                            self.bad("L5", file, part)
                        methods.add(part.name)
            fields |= {node.attr for node in file.of(ast.Attribute) if isinstance(node.ctx, ast.Store)}
        self.assertFalse(methods & fields, "L18")
        for file in self.files:
            for node in file.of(ast.Attribute):
                called = isinstance(file.parents[node], ast.Call) and file.parents[node].func is node
                known = METHODS | methods if called else fields
                if isinstance(node.ctx, ast.Load) and node.attr not in known:
                    self.bad("L18, L25", file, node)

    def test_statements_and_expressions_l6_l7(self):
        for file in self.files:
            for node in file.nodes:
                if isinstance(node, ast.stmt) and not isinstance(node, STATEMENTS):
                    self.bad("L6", file, node)
                if isinstance(node, (ast.For, ast.While)) and node.orelse:
                    self.bad("L6", file, node)
                if isinstance(node, ast.Expr) and not is_docstring(node) and not isinstance(node.value, ast.Call):
                    self.bad("L6", file, node)
                if isinstance(node, BARRED_NODES):
                    self.bad("L7", file, node)
                if isinstance(node, ast.FormattedValue) and node.format_spec is not None:
                    self.bad("L7", file, node)
                if isinstance(node, ast.Starred) and not isinstance(node.ctx, ast.Store):
                    self.bad("L7", file, node)
                if isinstance(node, ast.Pow) and not isinstance(file.parents[node].right, ast.Constant):
                    self.bad("L27", file, node)
                if isinstance(node, ast.AugAssign) and isinstance(node.target, ast.Subscript):
                    self.assertNotIsInstance(node.target.slice, ast.Slice, (file.name, node.lineno))

    def test_names_l8_l12_l15_l17(self):
        for file in self.files:
            classes = {node.name for node in file.of(ast.ClassDef)}
            taken = classes | set(file.imported())
            for name in file.local_names():
                self.assertFalse(name in taken or hasattr(builtins, name), (file.name, name))
            every = file.local_names() + file.bound()
            every += [node.name for node in file.of(ast.FunctionDef)] + [node.attr for node in file.of(ast.Attribute)]
            for name in every:
                self.assertTrue(re.fullmatch(r"[A-Za-z][A-Za-z0-9_]*", name) or name in DUNDERS, (file.name, name))
                self.assertNotIn(name, BARRED_NAMES, file.name)
            for node in file.of(ast.Name):
                if hasattr(builtins, node.id) and node.id not in CALLABLE | ERRORS:
                    self.bad("L8", file, node)

    def test_builtins_are_called_l22(self):
        for file in self.files:
            for node in file.of(ast.Name):
                parent = file.parents[node]
                if node.id not in CALLABLE or isinstance(parent, ast.keyword):
                    continue
                called = isinstance(parent, ast.Call) and parent.func is node
                outer = parent if isinstance(parent, ast.Call) else file.parents.get(parent)
                asked = isinstance(outer, ast.Call) and getattr(outer.func, "id", "") == "isinstance"
                if not called and not asked:
                    self.bad("L22", file, node)

    def test_errors_l19_l20(self):
        for file in self.files:
            for node in file.of(ast.Raise):
                if node.exc is not None and not (isinstance(node.exc, ast.Call) and isinstance(node.exc.func, ast.Name)):
                    self.bad("L19", file, node)
            for node in file.of(ast.ExceptHandler):
                if node.type is None or getattr(node.type, "id", "") in ("Exception", "TypeError", "ValueError"):
                    self.bad("L19", file, node)
            for node in file.of(ast.Compare):
                for sign, right in zip(node.ops, node.comparators):
                    if isinstance(sign, (ast.Is, ast.IsNot)):
                        if not isinstance(right, ast.Constant) or right.value not in (None, True, False):
                            self.bad("L20", file, node)

    def test_iterated_at_once_l23(self):
        for file in self.files:
            for node in file.of(ast.Call):
                name = getattr(node.func, "id", getattr(node.func, "attr", ""))
                if name not in AT_ONCE | {"items", "keys", "values"}:
                    continue
                parent = file.parents[node]
                loop = isinstance(parent, (ast.For, ast.comprehension)) and parent.iter is node
                if not loop and not isinstance(parent, (ast.Call, ast.Compare)):
                    self.bad("L23", file, node)

    def test_sets_l24(self):
        for file in self.files:
            for node in file.of(ast.Call, ast.Set, ast.SetComp):
                if isinstance(node, ast.Call) and getattr(node.func, "id", "") != "set":
                    continue
                parent = file.parents[node]
                while isinstance(parent, ast.BinOp):
                    parent = file.parents[parent]
                stands = isinstance(parent, (ast.Compare, ast.Assign))
                stands = stands or isinstance(parent, ast.Call) and getattr(parent.func, "id", "") in SETS_STAND_IN
                if not stands:
                    self.bad("L24", file, node)


if __name__ == "__main__":
    unittest.main()
