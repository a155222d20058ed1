"""The package keeps to the small part of Python that it is written in.

Not every rule of the form can be seen in the syntax tree; what is looked at
here is named by the rules' numbers (L1 to L28).
"""

import ast
import builtins
import io
import pathlib
import re
import tokenize
import unittest

PACKAGE = pathlib.Path(__file__).resolve().parent.parent / "pairsheath"

STATEMENTS = (
    ast.Module, ast.FunctionDef, ast.ClassDef, ast.ImportFrom, ast.Assign, ast.AugAssign, ast.If, ast.While,
    ast.For, ast.Return, ast.Break, ast.Continue, ast.Pass, ast.Raise, ast.Try, ast.ExceptHandler, ast.Expr,
)
EXPRESSIONS = (
    ast.Constant, ast.Name, ast.List, ast.Tuple, ast.Dict, ast.Set, ast.BinOp, ast.UnaryOp, ast.BoolOp, ast.Compare,
    ast.IfExp, ast.Call, ast.Attribute, ast.Subscript, ast.Slice, ast.ListComp, ast.comprehension, ast.JoinedStr,
    ast.FormattedValue, ast.Lambda, ast.arguments, ast.arg, ast.keyword, ast.alias, ast.operator, ast.unaryop,
    ast.boolop, ast.cmpop, ast.expr_context,
)
OUTSIDE = (ast.Div, ast.MatMult)
OWN_NAMES = """len range enumerate zip min max sum abs sorted reversed int str bool list tuple dict set frozenset
    isinstance ord repr any all divmod Exception ValueError TypeError KeyError IndexError LookupError
    ZeroDivisionError ArithmeticError OverflowError RuntimeError NotImplementedError AttributeError
    StopIteration""".split()
METHODS = """append clear copy count endswith extend find get index insert isalnum isalpha isdigit islower isspace
    isupper items join keys ljust lower lstrip partition pop remove replace reverse rfind rjust rpartition rsplit
    rstrip setdefault split splitlines startswith strip update upper values zfill bit_length""".split()
TWO_UNDERSCORES = "__init__ __eq__ __repr__ __str__ __len__ __all__ __version__".split()
WORDS_OUT = """type typing typing_extensions enum Enum IntEnum StrEnum Flag IntFlag Generic Protocol ABC ABCMeta
    namedtuple NamedTuple TypedDict TYPE_CHECKING abstractmethod""".split()
PARTS_OUT = "dataclass overload contextmanager".split()
NAMES_OUT = """register mro elements open input version_info with_traceback add_note attrgetter breakpoint builtins
    compile copyright credits delattr dir eval exec exit gc getattr globals hasattr help id importlib license locals
    methodcaller os quit setattr super type vars sys chr format format_map""".split()
WALKING = "list tuple dict sorted sum any all enumerate zip min max".split()
VALUES_OUT = """items keys values pop update append clear extend insert remove reverse setdefault sort args encode
    format""".split()


def files():
    return sorted(PACKAGE.glob("*.py"))


def trees():
    return [(path.name, ast.parse(path.read_text(encoding="utf-8"))) for path in files()]


def walked():
    for name, tree in trees():
        for node in ast.walk(tree):
            yield f"{name}:{getattr(node, 'lineno', 0)}", node


def beneath():
    """Each node with its place and the nodes above it, the nearest one last."""
    for name, tree in trees():
        ahead = [(tree, [])]
        while ahead:
            node, above = ahead.pop()
            yield f"{name}:{getattr(node, 'lineno', 0)}", node, above
            ahead.extend((inner, above + [node]) for inner in ast.iter_child_nodes(node))


def is_call_of(node, names):
    return isinstance(node, ast.Call) and isinstance(node.func, ast.Name) and node.func.id in names


def bound_names(tree):
    """The names that a file's top binds, each as often as it does."""
    names = []
    for node in tree.body:
        if isinstance(node, (ast.FunctionDef, ast.ClassDef)):
            names.append(node.name)
        elif isinstance(node, ast.ImportFrom):
            names.extend(alias.asname or alias.name for alias in node.names)
        elif isinstance(node, ast.Assign):
            names.append(node.targets[0].id)
    return names


def local_names(node):
    """The parameters and locals of a def."""
    names = [inner.arg for inner in ast.walk(node) if isinstance(inner, ast.arg)]
    for inner in ast.walk(node):
        if isinstance(inner, ast.Name) and isinstance(inner.ctx, ast.Store):
            names.append(inner.id)
    return names


class FilesTest(unittest.TestCase):
    def test_folder_holds_plain_files_alone(self):
        for path in PACKAGE.iterdir():
            if path.name != "__pycache__":
                self.assertRegex(path.name, r"^[a-z0-9_]+\.py$", "L1, L14")
        self.assertTrue((PACKAGE / "__init__.py").is_file(), "L14")
        for path in files():
            if path.stem != "__init__":
                self.assertFalse(hasattr(builtins, path.stem), f"L14 {path.name}")
                self.assertNotRegex(path.stem, r"^(test.*|site|conftest|sitecustomize|usercustomize)$", "L14")

    def test_sizes_and_signs(self):
        for path in files():
            text = path.read_text(encoding="utf-8")
            self.assertRegex(text, r"\A[\n -~]*\Z", f"L14 {path.name}")
            rows = text.splitlines()
            self.assertLessEqual(len(rows), 400, f"L10 {path.name}")
            for row in rows:
                self.assertLessEqual(len(row), 120, f"L10 {path.name}")
        for place, node in walked():
            if isinstance(node, ast.FunctionDef):
                self.assertLessEqual(node.end_lineno - node.lineno + 1, 40, f"L10 {place}")

    def test_words_that_stand_nowhere(self):
        for path in files():
            text = path.read_text(encoding="utf-8")
            for word in WORDS_OUT:
                self.assertIsNone(re.search(rf"\b{word}\b", text), f"L17 {path.name}: {word}")
            for part in PARTS_OUT:
                self.assertNotIn(part, text, f"L17 {path.name}")

    def test_texts(self):
        for path in files():
            row_feed = io.StringIO(path.read_text(encoding="utf-8"))
            for token in tokenize.generate_tokens(row_feed.readline):
                if token.type == tokenize.STRING:
                    self.assertNotIn("%", token.string, f"L27 {path.name}")
                    for escape in re.findall(r"\\.", token.string, re.DOTALL):
                        self.assertIn(escape[1], "nt\\'\"", f"L27 {path.name}")


class TopTest(unittest.TestCase):
    def test_statements_of_the_top(self):
        for name, tree in trees():
            self.assertIsNotNone(ast.get_docstring(tree), f"L3 {name}")
            for node in tree.body[1:]:
                plain = (ast.ImportFrom, ast.FunctionDef, ast.ClassDef, ast.Assign)
                self.assertIsInstance(node, plain, f"L3 {name}:{node.lineno}")

    def test_each_name_is_bound_once(self):
        for name, tree in trees():
            names = bound_names(tree)
            self.assertEqual(len(names), len(set(names)), f"L15 {name}")

    def test_imports(self):
        tops = dict(trees())
        drawn = {name: [] for name in tops}
        for name, tree in tops.items():
            for node in ast.walk(tree):
                if isinstance(node, ast.ImportFrom):
                    self.assertIn(node, tree.body, f"L2 {name}")
                    self.assertEqual(node.level, 0, f"L2 {name}")
                    self.assertRegex(node.module, r"^pairsheath\.\w+$", f"L2 {name}")
                    source = node.module.partition(".")[2] + ".py"
                    drawn[name].append(source)
                    for alias in node.names:
                        defined = [row for row in tops[source].body if not isinstance(row, ast.ImportFrom)]
                        own = bound_names(ast.Module(body=defined, type_ignores=[]))
                        self.assertIn(alias.name, own, f"L16 {name}")
        while drawn:
            free = [name for name in drawn if not any(source in drawn for source in drawn[name])]
            self.assertTrue(free, f"L16: files draw from one another: {sorted(drawn)}")
            for name in free:
                drawn.pop(name)


class NodesTest(unittest.TestCase):
    def test_statements_and_expressions(self):
        for place, node in walked():
            self.assertIsInstance(node, STATEMENTS + EXPRESSIONS, f"L6, L7 {place}")
            self.assertNotIsInstance(node, OUTSIDE, f"L7 {place}")
            if isinstance(node, (ast.For, ast.While)):
                self.assertEqual(node.orelse, [], f"L6 {place}")
            if isinstance(node, ast.Try):
                self.assertEqual(node.finalbody, [], f"L6 {place}")
            if isinstance(node, ast.Assign):
                self.assertEqual(len(node.targets), 1, f"L6 {place}")
            if isinstance(node, ast.ListComp):
                self.assertEqual(len(node.generators), 1, f"L7 {place}")
                self.assertLessEqual(len(node.generators[0].ifs), 1, f"L7 {place}")
            if isinstance(node, ast.Constant):
                self.assertNotIsInstance(node.value, (float, complex, bytes), f"L7 {place}")
            if isinstance(node, ast.FormattedValue):
                self.assertIsInstance(node.value, ast.Name, f"L7 {place}")
                self.assertIsNone(node.format_spec, f"L7 {place}")

    def test_expressions_by_themselves(self):
        for place, node in walked():
            if isinstance(node, (ast.FunctionDef, ast.ClassDef, ast.Module)):
                for row in node.body[1:]:
                    if isinstance(row, ast.Expr):
                        self.assertIsInstance(row.value, ast.Call, f"L6 {place}")

    def test_functions(self):
        for place, node in walked():
            if isinstance(node, ast.arguments):
                stars = (node.vararg, node.kwarg, node.kwonlyargs, node.posonlyargs)
                self.assertEqual(stars, (None, None, [], []), f"L4 {place}")
            if isinstance(node, (ast.FunctionDef, ast.ClassDef)):
                self.assertEqual(node.decorator_list, [], f"L4, L5 {place}")

    def test_classes(self):
        for name, tree in trees():
            for node in ast.walk(tree):
                if isinstance(node, ast.ClassDef):
                    self.assertIn(node, tree.body, f"L15 {name}")
                    self.assertLessEqual(len(node.bases), 1, f"L5 {name}")
                    self.assertEqual(node.keywords, [], f"L5 {name}")
                    rows = node.body[1:] if ast.get_docstring(node) else node.body
                    for row in rows:
                        self.assertIsInstance(row, (ast.FunctionDef, ast.Pass), f"L5 {name}:{row.lineno}")

    def test_is_stands_beside_three_alone(self):
        for place, node in walked():
            if isinstance(node, ast.Compare):
                for sign, right in zip(node.ops, node.comparators):
                    if isinstance(sign, (ast.Is, ast.IsNot)):
                        self.assertIsInstance(right, ast.Constant, f"L20 {place}")
                        self.assertIn(right.value, (None, True, False), f"L20 {place}")

    def test_errors_that_are_taken(self):
        for place, node in walked():
            if isinstance(node, ast.ExceptHandler):
                self.assertIsNotNone(node.type, f"L6 {place}")
                for inner in ast.walk(node.type):
                    if isinstance(inner, ast.Name):
                        self.assertNotIn(inner.id, ("Exception", "TypeError"), f"L19 {place}")

    def test_sets_are_not_kept(self):
        for place, node, above in beneath():
            if is_call_of(node, ("set", "frozenset")):
                while isinstance(above[-1], ast.BinOp):
                    above = above[:-1]
                if isinstance(above[-1], ast.Compare):
                    continue
                self.assertTrue(is_call_of(above[-1], ("sorted", "len")), f"L24 {place}")
                self.assertEqual(above[-1].keywords, [], f"L24 {place}")

    def test_walked_at_once(self):
        for place, node, above in beneath():
            called = isinstance(node, ast.Call) and isinstance(node.func, ast.Attribute)
            method = called and node.func.attr in ("items", "keys", "values")
            if method or is_call_of(node, ("zip", "enumerate", "reversed", "range")):
                if isinstance(above[-1], (ast.For, ast.comprehension)):
                    self.assertIs(above[-1].iter, node, f"L23 {place}")
                else:
                    self.assertTrue(is_call_of(above[-1], WALKING), f"L23 {place}")
                    self.assertIs(above[-1].args[0], node, f"L23 {place}")

    def test_powers(self):
        for place, node in walked():
            if isinstance(node, ast.BinOp) and isinstance(node.op, ast.Pow):
                self.assertIsInstance(node.right, ast.Constant, f"L27 {place}")
                self.assertIn(node.right.value, range(65), f"L27 {place}")


class NamesTest(unittest.TestCase):
    def test_plain_names(self):
        for place, node in walked():
            for field in ("id", "name", "arg", "attr"):
                name = getattr(node, field, None)
                if isinstance(name, str) and name not in TWO_UNDERSCORES:
                    self.assertRegex(name, r"^[A-Za-z][A-Za-z0-9_]*$", f"L12 {place}")
                    self.assertNotIn(name, NAMES_OUT, f"L17 {place}")

    def test_names_of_python_s_own(self):
        for place, node in walked():
            if isinstance(node, ast.Name):
                if isinstance(node.ctx, ast.Load):
                    if hasattr(builtins, node.id):
                        self.assertIn(node.id, OWN_NAMES, f"L8 {place}")
                else:
                    self.assertFalse(hasattr(builtins, node.id), f"L8, L15 {place}: {node.id}")
            if isinstance(node, ast.arg):
                self.assertFalse(hasattr(builtins, node.arg), f"L15 {place}: {node.arg}")

    def test_locals_are_not_called_like_classes_and_imports(self):
        for name, tree in trees():
            taken = []
            for node in tree.body:
                if isinstance(node, ast.ClassDef):
                    taken.append(node.name)
                elif isinstance(node, ast.ImportFrom):
                    taken.extend(alias.name for alias in node.names)
            for node in ast.walk(tree):
                if isinstance(node, (ast.FunctionDef, ast.Lambda)):
                    self.assertEqual(sorted(set(taken) & set(local_names(node))), [], f"L15 {name}")

    def test_methods_and_values(self):
        methods = []
        values = []
        for place, node in walked():
            if isinstance(node, ast.ClassDef):
                own = [row.name for row in node.body if isinstance(row, ast.FunctionDef)]
                self.assertEqual(len(own), len(set(own)), f"L18 {place}")
                methods.extend(own)
            if isinstance(node, ast.Attribute) and isinstance(node.ctx, ast.Store):
                values.append(node.attr)
        self.assertEqual(sorted(set(methods) & set(values)), [], "L18")
        self.assertEqual(sorted(set(values) & set(VALUES_OUT)), [], "L26")
        for place, node in walked():
            if isinstance(node, ast.Call) and isinstance(node.func, ast.Attribute):
                self.assertIn(node.func.attr, METHODS + methods, f"L25 {place}")


if __name__ == "__main__":
    unittest.main()
