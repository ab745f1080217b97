"""The rules of the language subset that can be seen in the syntax: files, sizes, names, imports, calls, sets."""

import ast
import builtins
import pathlib
import re
import unittest

FOLDER = pathlib.Path(__file__).resolve().parent.parent / "loomhold"
FILES = sorted(FOLDER.glob("*.py"))
BUILTINS = set(
    "len range enumerate zip min max sum abs sorted reversed int str bool list tuple dict set isinstance ord repr any all divmod"
    " Exception ValueError TypeError KeyError IndexError LookupError NotImplemented".split())
METHODS = set(
    "append clear copy count endswith extend find get index insert isalnum isalpha isdigit islower isspace isupper items join keys"
    " ljust lower lstrip partition pop remove replace reverse rfind rjust rpartition rsplit rstrip setdefault split splitlines"
    " startswith strip update upper values zfill bit_length isascii".split())
NO_ATTRIBUTES = set(
    "items keys values pop update append clear extend insert remove reverse setdefault sort args encode decode hex fromhex format"
    " as_integer_ratio bit_count conjugate from_bytes is_integer to_bytes real imag numerator denominator".split())
NO_NAMES = set(
    "register mro elements open input law version_info with_traceback add_note attrgetter breakpoint builtins compile copyright"
    " credits delattr dir eval exec exit gc getattr globals hasattr help id importlib license locals methodcaller os quit setattr"
    " super type vars sys chr pow".split())
NO_WORDS = re.compile(
    r"\b(type|typing|typing_extensions|enum|Enum|IntEnum|StrEnum|Flag|IntFlag|Generic|Protocol|ABC|ABCMeta|namedtuple|NamedTuple"
    r"|TypedDict|TYPE_CHECKING|abstractmethod)\b|dataclass|overload|contextmanager|_wall|%|\bf_|\btb_|\bco_")
DOUBLE = set("__init__ __eq__ __str__ __len__ __add__ __contains__".split())
NO_NODES = (
    ast.AsyncFunctionDef, ast.Await, ast.Global, ast.Nonlocal, ast.GeneratorExp, ast.With, ast.Match, ast.AnnAssign,
    ast.YieldFrom, ast.NamedExpr, ast.Div, ast.Import, ast.Delete, ast.Assert)


def tree_of(file):
    return ast.parse(file.read_text(encoding="utf-8"))


def docstrings(tree):
    """The constants that are docstrings."""
    out = set()
    for node in ast.walk(tree):
        if isinstance(node, (ast.Module, ast.ClassDef, ast.FunctionDef)) and ast.get_docstring(node) is not None:
            out.add(node.body[0].value)
    return out


def functions(tree):
    return [node for node in ast.walk(tree) if isinstance(node, ast.FunctionDef)]


def defined_at_top(tree):
    names = []
    for node in tree.body:
        if isinstance(node, (ast.FunctionDef, ast.ClassDef)):
            names.append(node.name)
        elif isinstance(node, ast.Assign):
            names.extend(target.id for target in node.targets)
    return names


def imported(tree):
    return [alias.name for node in tree.body if isinstance(node, ast.ImportFrom) for alias in node.names]


def bound_names(tree):
    """All names that are parameters or are assigned anywhere."""
    for node in ast.walk(tree):
        if isinstance(node, ast.arg):
            yield node.arg
        elif isinstance(node, ast.Name) and isinstance(node.ctx, ast.Store):
            yield node.id
        elif isinstance(node, (ast.FunctionDef, ast.ClassDef)):
            yield node.name


OWN_METHODS = {function.name for file in FILES for node in ast.walk(tree_of(file)) if isinstance(node, ast.ClassDef)
               for function in functions(node)}


class RulesTest(unittest.TestCase):

    def each(self):
        return [(file, tree_of(file)) for file in FILES]

    def test_files_and_sizes(self):
        self.assertIn("__init__.py", [file.name for file in FILES])
        self.assertLessEqual(len(FILES), 100)
        self.assertEqual([path.name for path in FOLDER.iterdir() if path.suffix != ".py" and path.name != "__pycache__"], [])
        for file, tree in self.each():
            text = file.read_text(encoding="utf-8")
            self.assertTrue(all(sign == "\n" or " " <= sign <= "~" for sign in text))
            lines = text.split("\n")
            self.assertLessEqual(len(lines) - 1, 399)
            self.assertLessEqual(max(len(line) for line in lines), 120)
            for function in functions(tree):
                self.assertLessEqual(function.end_lineno - function.lineno + 1, 40, function.name)

    def test_imports(self):
        edges = {}
        for file, tree in self.each():
            edges[file.stem] = []
            for node in ast.walk(tree):
                if not isinstance(node, ast.ImportFrom):
                    continue
                self.assertIn(node, tree.body)
                package, stem = node.module.split(".")
                self.assertEqual((package, node.level), ("loomhold", 0))
                self.assertTrue(all(alias.asname is None for alias in node.names))
                self.assertLessEqual({alias.name for alias in node.names}, set(defined_at_top(tree_of(FOLDER / (stem + ".py")))))
                edges[file.stem].append(stem)
            read = {node.id for node in ast.walk(tree) if isinstance(node, ast.Name)}
            self.assertLessEqual(set(imported(tree)), read)
        while edges:
            free = [stem for stem in edges if not edges[stem]]
            self.assertTrue(free, "imports go round")
            edges = {stem: [to for to in edges[stem] if to not in free] for stem in edges if stem not in free}

    def test_module_level(self):
        for _, tree in self.each():
            names = [*defined_at_top(tree), *imported(tree)]
            self.assertEqual(len(names), len(set(names)))
            for node in tree.body:
                self.assertIsInstance(node, (ast.Expr, ast.ImportFrom, ast.FunctionDef, ast.ClassDef, ast.Assign))
                if isinstance(node, ast.Expr):
                    self.assertIn(node.value, docstrings(tree))
            for node in ast.walk(tree):
                self.assertNotIsInstance(node, NO_NODES)
                if isinstance(node, ast.FunctionDef):
                    self.assertLessEqual({mark.id for mark in node.decorator_list}, {"property", "classmethod"})
                    self.assertIsNone(node.returns)
                if isinstance(node, ast.arg):
                    self.assertIsNone(node.annotation)

    def test_names(self):
        barred = NO_NAMES | set(dir(builtins))
        for _, tree in self.each():
            taken = set(imported(tree)) | {node.name for node in tree.body if isinstance(node, ast.ClassDef)}
            top = set(defined_at_top(tree))
            for name in bound_names(tree):
                self.assertNotIn(name, barred)
                self.assertTrue(re.fullmatch(r"_?[A-Za-z][A-Za-z0-9_]*|_", name) or name in DOUBLE, name)
            for function in functions(tree):
                local = {arg.arg for arg in ast.walk(function) if isinstance(arg, ast.arg)}
                local |= {node.id for node in ast.walk(function) if isinstance(node, ast.Name) and isinstance(node.ctx, ast.Store)}
                self.assertEqual(local & taken, set(), function.name)
                self.assertEqual(local & top, set(), function.name)
            for node in ast.walk(tree):
                if isinstance(node, ast.Attribute) and isinstance(node.ctx, ast.Store):
                    self.assertNotIn(node.attr, NO_ATTRIBUTES | METHODS)
                if isinstance(node, ast.Name) and isinstance(node.ctx, ast.Load) and node.id in dir(builtins):
                    self.assertIn(node.id, BUILTINS | {"property", "classmethod"})

    def test_words(self):
        for _, tree in self.each():
            told = docstrings(tree)
            for node in ast.walk(tree):
                if isinstance(node, ast.Constant):
                    self.assertNotIsInstance(node.value, (float, bytes, complex))
                    if isinstance(node.value, str) and node not in told:
                        self.assertIsNone(NO_WORDS.search(node.value), node.value)
                if isinstance(node, (ast.Name, ast.Attribute)):
                    name = node.id if isinstance(node, ast.Name) else node.attr
                    self.assertIsNone(NO_WORDS.search(name), name)

    def test_expressions(self):
        for _, tree in self.each():
            for node in ast.walk(tree):
                if isinstance(node, ast.BinOp) and isinstance(node.op, ast.Pow):
                    self.assertIsInstance(node.right, ast.Constant)
                if isinstance(node, ast.Compare):
                    for sign, other in zip(node.ops, node.comparators):
                        if isinstance(sign, (ast.Is, ast.IsNot)):
                            self.assertIsInstance(other, ast.Constant)
                            self.assertIn(other.value, (None, True, False))
                if isinstance(node, ast.AugAssign):
                    self.assertIsInstance(node.op, (ast.Add, ast.Sub))
                if isinstance(node, ast.Call) and isinstance(node.func, ast.Attribute):
                    self.assertIn(node.func.attr, METHODS | OWN_METHODS)
                    if node.func.attr in METHODS:
                        self.assertEqual(node.keywords, [])
                if isinstance(node, ast.Call) and isinstance(node.func, ast.Name) and node.func.id == "sorted":
                    self.assertNotIsInstance(node.args[0], ast.GeneratorExp)

    def test_sets(self):
        for _, tree in self.each():
            let = set()
            for node in ast.walk(tree):
                inner = []
                if isinstance(node, ast.Call) and isinstance(node.func, ast.Name) and node.func.id in ("sorted", "len"):
                    inner = list(node.args)
                elif isinstance(node, ast.Compare) and isinstance(node.ops[0], (ast.Eq, ast.NotEq)):
                    inner = [node.left, *node.comparators]
                while inner:
                    part = inner.pop()
                    let.add(part)
                    if isinstance(part, ast.BinOp):
                        inner.extend([part.left, part.right])
            for node in ast.walk(tree):
                made = isinstance(node, ast.Call) and isinstance(node.func, ast.Name) and node.func.id == "set"
                if made or isinstance(node, (ast.Set, ast.SetComp)):
                    self.assertIn(node, let)

    def test_errors(self):
        own = {node.name for node in tree_of(FOLDER / "errors.py").body if isinstance(node, ast.ClassDef)}
        for _, tree in self.each():
            for node in ast.walk(tree):
                if isinstance(node, ast.Raise):
                    self.assertIsInstance(node.exc, ast.Call)
                    self.assertIn(node.exc.func.id, own)
                if isinstance(node, ast.ExceptHandler):
                    named = node.type.elts if isinstance(node.type, ast.Tuple) else [node.type]
                    self.assertLessEqual({name.id for name in named}, own)
                    self.assertIsNone(node.name)
                if isinstance(node, ast.Try):
                    self.assertEqual(node.orelse, [])
                    for line in node.finalbody:
                        self.assertIsInstance(line, ast.Assign)
                        self.assertIsInstance(line.targets[0], ast.Attribute)
                        self.assertIsInstance(line.value, ast.Name)

    def test_tables(self):
        for _, tree in self.each():
            tables = {node.targets[0].id: node.value for node in tree.body if isinstance(node, ast.Assign)}
            own = {node.name for node in tree.body if isinstance(node, ast.FunctionDef)}
            for value in tables.values():
                for part in ast.walk(value):
                    self.assertNotIsInstance(part, (ast.Call, ast.Attribute, ast.Set))
                    if isinstance(part, ast.Name) and isinstance(part.ctx, ast.Load):
                        self.assertIn(part.id, own)
                if isinstance(value, (ast.Dict, ast.Tuple)):
                    inner = [part for part in ast.walk(value) if part is not value]
                    self.assertFalse(any(isinstance(part, (ast.Dict, ast.List)) for part in inner))

    def test_double_underscores(self):
        for _, tree in self.each():
            for function in functions(tree):
                returned = [node for node in ast.walk(function) if isinstance(node, ast.Return)]
                if function.name == "__init__":
                    self.assertEqual(returned, [])
                if function.name in ("__len__", "__str__"):
                    self.assertIsInstance(function.body[-1], ast.Return)
                    self.assertTrue(all(isinstance(node.value, ast.Call) for node in returned))


if __name__ == "__main__":
    unittest.main()
