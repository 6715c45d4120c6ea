"""Looks at the package's own files: whether they keep to the part of Python that the program is written in."""

import ast
import builtins
import io
import pathlib
import re
import tokenize
import unittest

PACKAGE = pathlib.Path(__file__).resolve().parent.parent / "keeplog"
MODULES = sorted(PACKAGE.rglob("*.py"))

STATEMENTS = (
    ast.Module, ast.FunctionDef, ast.ClassDef, ast.Assign, ast.AugAssign, ast.If, ast.While, ast.For, ast.Return, ast.Break,
    ast.Continue, ast.Pass, ast.Raise, ast.Try, ast.ExceptHandler, ast.Expr, ast.ImportFrom,
)
EXPRESSIONS = (
    ast.Constant, ast.List, ast.Tuple, ast.Dict, ast.BinOp, ast.UnaryOp, ast.BoolOp, ast.Compare, ast.IfExp, ast.Call,
    ast.Attribute, ast.Subscript, ast.Slice, ast.ListComp, ast.comprehension, ast.JoinedStr, ast.FormattedValue, ast.Name,
    ast.Lambda, ast.keyword, ast.arguments, ast.arg, ast.alias,
)
OWN_NAMES = (
    "len range enumerate zip min max sum abs sorted reversed int str bool list tuple dict set frozenset isinstance ord repr any all "
    "divmod Exception ValueError TypeError KeyError IndexError LookupError ZeroDivisionError ArithmeticError OverflowError "
    "RuntimeError NotImplementedError AttributeError StopIteration"
).split()
METHODS = (
    "append clear copy count endswith extend find get index insert isalnum isalpha isdigit islower isspace isupper items join keys "
    "ljust lower lstrip partition pop remove replace reverse rfind rjust rpartition rsplit rstrip setdefault split splitlines "
    "startswith strip update upper values zfill bit_length"
).split()
WORDS_OUT = (
    "type typing typing_extensions enum Enum IntEnum StrEnum Flag IntFlag Generic Protocol ABC ABCMeta namedtuple NamedTuple "
    "TypedDict TYPE_CHECKING abstractmethod"
).split()
NAMES_OUT = (
    "register mro elements open input version_info with_traceback add_note attrgetter breakpoint builtins compile copyright credits "
    "delattr dir eval exec exit gc getattr globals hasattr help id importlib license locals methodcaller os quit setattr super type "
    "vars sys __name__ chr format format_map print"
).split()
METHODS_ALLOWED = METHODS + ["add", "discard"]
VALUES_ALLOWED = "count index title find get join lower upper split strip copy add".split()
WALKED_AT_ONCE = "zip enumerate reversed range".split()
WALKERS = "list tuple dict sorted sum any all enumerate zip min max".split()
OWN_KINDS = (str, int, list, tuple, dict, set, frozenset, bytes)
VALUES_OUT = "items keys values pop update append clear extend insert remove reverse setdefault sort args encode format".split()
BENEATH_KEEPERS = ["errors", "rows", "filling", "seats", "counting", "stores", "packs"]
BENEATH_ROOMS = ["errors", "seats", "counting", "stores", "packs", "keepers", "agreeing", "handing", "voting"]
STANDS_ON = {
    "rows": ["errors"],
    "filling": ["errors", "rows"],
    "seats": [],
    "counting": ["seats"],
    "stores": [],
    "packs": ["errors", "rows", "seats", "stores"],
    "keepers": BENEATH_KEEPERS,
    "agreeing": BENEATH_KEEPERS + ["keepers"],
    "handing": BENEATH_KEEPERS + ["keepers"],
    "voting": BENEATH_KEEPERS + ["keepers", "agreeing", "handing"],
    "roads": ["errors"],
    "callers": [],
    "rooms": BENEATH_ROOMS + ["roads", "callers"],
}
PLAIN_NAME = re.compile(r"[A-Za-z][A-Za-z0-9_]*")


def tree_of(path):
    return ast.parse(path.read_text("utf-8"))


def nodes(kind):
    """All nodes of a kind in the package, each with a word on where it stands."""
    return [(node, f"{path.name}:{getattr(node, 'lineno', 0)}")
            for path in MODULES for node in ast.walk(tree_of(path)) if isinstance(node, kind)]


def bound_names(tree):
    """Names of parameters and locals, functions and classes, with their lines."""
    for node in ast.walk(tree):
        if isinstance(node, ast.arg):
            yield node.arg, node.lineno
        elif isinstance(node, ast.Name) and isinstance(node.ctx, ast.Store):
            yield node.id, node.lineno
        elif isinstance(node, (ast.FunctionDef, ast.ClassDef)):
            yield node.name, node.lineno


def is_plain_value(node, functions):
    if isinstance(node, ast.Dict):
        return all(is_plain_value(part, functions) for part in node.keys + node.values)
    if isinstance(node, (ast.List, ast.Tuple)):
        return all(is_plain_value(part, functions) for part in node.elts)
    if isinstance(node, ast.UnaryOp) and isinstance(node.op, ast.USub):
        return is_plain_value(node.operand, functions)
    return isinstance(node, ast.Constant) or isinstance(node, ast.Name) and node.id in functions


class Language(unittest.TestCase):
    def test_the_package_holds_its_files_alone(self):
        for path in PACKAGE.rglob("*"):
            if "__pycache__" not in path.parts:
                self.assertTrue(path.is_dir() or re.fullmatch(r"[a-z0-9_]+\.py", path.name), path)
        self.assertIn(PACKAGE / "__init__.py", MODULES)

    def test_signs_and_sizes(self):
        for path in MODULES:
            text = path.read_bytes().decode("ascii")
            self.assertTrue(all(sign == "\n" or " " <= sign <= "~" for sign in text), path)
            lines = text.split("\n")
            self.assertLessEqual(len(lines), 400, path)
            self.assertLessEqual(max(len(line) for line in lines), 120, path)
            for word in WORDS_OUT:
                self.assertIsNone(re.search(rf"\b{word}\b", text), (path, word))
            for word in ("dataclass", "overload", "contextmanager"):
                self.assertNotIn(word, text, path)
        for node, where in nodes(ast.FunctionDef):
            self.assertLessEqual(node.end_lineno - node.lineno + 1, 40, where)

    def test_statements_and_expressions(self):
        for node, where in nodes((ast.stmt, ast.expr, ast.ExceptHandler)):
            self.assertIsInstance(node, STATEMENTS + EXPRESSIONS, where)
        for node, where in nodes((ast.For, ast.While)):
            self.assertEqual(node.orelse, [], where)
        for node, where in nodes(ast.Try):
            self.assertEqual(node.finalbody, [], where)
        for node, where in nodes(ast.Assign):
            self.assertEqual(len(node.targets), 1, where)
            self.assertNotIsInstance(node.targets[0], (ast.Tuple, ast.List), where)
        for node, where in nodes(ast.ListComp):
            self.assertEqual(len(node.generators), 1, where)
            self.assertLessEqual(len(node.generators[0].ifs), 1, where)
        for node, where in nodes(ast.BinOp):
            self.assertNotIsInstance(node.op, (ast.Div, ast.MatMult), where)
            if isinstance(node.op, ast.Pow):
                self.assertIsInstance(node.right, ast.Constant, where)
                self.assertIn(node.right.value, range(65), where)
        for node, where in nodes(ast.Constant):
            self.assertIsInstance(node.value, (bool, int, str, type(None)), where)
        for node, where in nodes(ast.Compare):
            if any(isinstance(op, (ast.Is, ast.IsNot)) for op in node.ops):
                sides = [side for side in [node.left] + node.comparators if isinstance(side, ast.Constant)]
                self.assertTrue(any(side.value is None or isinstance(side.value, bool) for side in sides), where)

    def test_functions_and_classes(self):
        for node, where in nodes(ast.FunctionDef):
            self.assertEqual(node.decorator_list, [], where)
            self.assertIsNone(node.returns, where)
            asked = node.args
            self.assertEqual((asked.vararg, asked.kwarg, asked.kwonlyargs, asked.posonlyargs), (None, None, [], []), where)
        for node, where in nodes(ast.ClassDef):
            self.assertEqual((node.decorator_list, node.keywords), ([], []), where)
            self.assertLessEqual(len(node.bases), 1, where)
            for part in node.body:
                self.assertIsInstance(part, (ast.FunctionDef, ast.Pass), where)

    def test_expressions_by_themselves_are_calls_or_a_files_first_words(self):
        for path in MODULES:
            tree = tree_of(path)
            for node in ast.walk(tree):
                if isinstance(node, ast.Expr) and node is not tree.body[0]:
                    self.assertIsInstance(node.value, ast.Call, (path, node.lineno))

    def test_the_top_of_a_file(self):
        for path in MODULES:
            tree, seen = tree_of(path), []
            functions = []
            for node in tree.body[1:]:
                if isinstance(node, ast.ImportFrom):
                    self.assertEqual(seen, [], path)
                    self.assertEqual(node.level, 0, path)
                    self.assertTrue(node.module.startswith("keeplog."), path)
                    self.assertTrue((PACKAGE.parent / (node.module.replace(".", "/") + ".py")).exists(), path)
                    self.assertTrue(all(alias.name != "*" and alias.asname is None for alias in node.names), path)
                    continue
                self.assertIsInstance(node, (ast.FunctionDef, ast.ClassDef, ast.Assign), (path, node.lineno))
                name = node.targets[0].id if isinstance(node, ast.Assign) else node.name
                self.assertNotIn(name, seen, path)
                seen.append(name)
                if isinstance(node, ast.FunctionDef):
                    functions.append(name)
                if isinstance(node, ast.Assign):
                    self.assertTrue(is_plain_value(node.value, functions), (path, node.lineno))

    def test_no_two_files_draw_from_one_another(self):
        draws = {f"keeplog.{path.stem}": [node.module for node in tree_of(path).body if isinstance(node, ast.ImportFrom)]
                 for path in MODULES}
        while draws:
            free = [name for name in draws if not any(drawn in draws for drawn in draws[name])]
            self.assertNotEqual(free, [], draws)
            draws = {name: drawn for name, drawn in draws.items() if name not in free}

    def test_what_each_file_stands_on(self):
        for name, beneath in STANDS_ON.items():
            drawn = {node.module for node in tree_of(PACKAGE / f"{name}.py").body if isinstance(node, ast.ImportFrom)}
            self.assertLessEqual(drawn, {f"keeplog.{other}" for other in beneath}, name)

    def test_names(self):
        own = dir(builtins)
        for path in MODULES:
            tree = tree_of(path)
            taken = [node.name for node in tree.body if isinstance(node, (ast.FunctionDef, ast.ClassDef))]
            taken += [alias.name for node in tree.body if isinstance(node, ast.ImportFrom) for alias in node.names]
            known = set(taken) | {name for name, line in bound_names(tree)}
            at_top = {(node.name, node.lineno) for node in tree.body if isinstance(node, (ast.FunctionDef, ast.ClassDef))}
            methods = {(part.name, part.lineno) for node in tree.body if isinstance(node, ast.ClassDef)
                       for part in node.body if isinstance(part, ast.FunctionDef)}
            for name, line in bound_names(tree):
                if (name, line) not in methods:
                    self.assertIsNotNone(PLAIN_NAME.fullmatch(name), (path, line))
                    self.assertNotIn(name, own + NAMES_OUT, (path, line))
                    self.assertTrue((name, line) in at_top or name not in taken, (path, line, name))
            for node in ast.walk(tree):
                if isinstance(node, ast.Name):
                    self.assertIn(node.id, known | set(OWN_NAMES), (path, node.lineno))

    def test_methods_and_values(self):
        values = {node.attr for node, where in nodes(ast.Attribute) if isinstance(node.ctx, ast.Store)}
        methods = {part.name for node, where in nodes(ast.ClassDef) for part in node.body if isinstance(part, ast.FunctionDef)}
        self.assertEqual(values & methods, set())
        for name in methods:
            self.assertTrue(name in ("__init__", "__eq__", "__repr__", "__str__", "__len__") or PLAIN_NAME.fullmatch(name), name)
        for node, where in nodes(ast.Attribute):
            self.assertIn(node.attr, set(METHODS) | values | methods, where)
            self.assertNotIn(node.attr, NAMES_OUT, where)

    def test_free_names_of_methods_and_values(self):
        own = {name for kind in OWN_KINDS for name in dir(kind)}
        for node, where in nodes(ast.ClassDef):
            for part in node.body:
                if isinstance(part, ast.FunctionDef) and not part.name.startswith("__"):
                    self.assertTrue(part.name not in own or part.name in METHODS_ALLOWED, (where, part.name))
        for node, where in nodes(ast.Attribute):
            if isinstance(node.ctx, ast.Store):
                self.assertTrue(node.attr not in own or node.attr in VALUES_ALLOWED, (where, node.attr))

    def test_names_are_drawn_from_the_files_that_define_them(self):
        for node, where in nodes(ast.ImportFrom):
            tree = tree_of(PACKAGE.parent / (node.module.replace(".", "/") + ".py"))
            defined = [part.name for part in tree.body if isinstance(part, (ast.FunctionDef, ast.ClassDef))]
            defined += [part.targets[0].id for part in tree.body if isinstance(part, ast.Assign)]
            for alias in node.names:
                self.assertIn(alias.name, defined, where)

    def test_errors(self):
        own = [node.name for node in tree_of(PACKAGE / "errors.py").body if isinstance(node, ast.ClassDef)]
        for node, where in nodes(ast.ExceptHandler):
            self.assertIsInstance(node.type, ast.Name, where)
            self.assertIn(node.type.id, own + ["KeyError", "ZeroDivisionError", "StopIteration"], where)
        for node, where in nodes(ast.Raise):
            self.assertIsInstance(node.exc, ast.Call, where)
            self.assertIn(node.exc.func.id, own, where)
            self.assertTrue(node.cause is None or isinstance(node.cause, ast.Constant) and node.cause.value is None, where)

    def test_texts_with_names_in_them(self):
        for node, where in nodes(ast.FormattedValue):
            self.assertIsInstance(node.value, ast.Name, where)
            self.assertIsNone(node.format_spec, where)
            self.assertIn(node.conversion, (-1, ord("r")), where)

    def test_what_is_walked_at_once(self):
        for path in MODULES:
            tree, walked = tree_of(path), []
            for node in ast.walk(tree):
                if isinstance(node, (ast.For, ast.comprehension)):
                    walked.append(node.iter)
                if isinstance(node, ast.Call) and isinstance(node.func, ast.Name) and node.func.id in WALKERS:
                    walked += node.args
            for node in ast.walk(tree):
                if isinstance(node, ast.Call):
                    name = node.func.id if isinstance(node.func, ast.Name) else node.func.attr
                    if name in WALKED_AT_ONCE + ["items", "keys", "values"]:
                        self.assertIn(node, walked, (path, node.lineno))

    def test_values_of_objects(self):
        for node, where in nodes(ast.Attribute):
            if isinstance(node.ctx, ast.Store):
                self.assertIsInstance(node.value, ast.Name, where)
                self.assertNotIn(node.attr, VALUES_OUT, where)
        for node, where in nodes(ast.FunctionDef):
            if node.name == "__init__":
                self.assertFalse(any(isinstance(part, ast.Return) for part in ast.walk(node)), where)

    def test_texts(self):
        for path in MODULES:
            for token in tokenize.generate_tokens(io.StringIO(path.read_text("ascii")).readline):
                if token.type == tokenize.STRING:
                    self.assertIsNone(re.search(r"\\[^nt\\'\"]", token.string), (path, token.start))
                    self.assertNotIn("%", token.string, (path, token.start))


if __name__ == "__main__":
    unittest.main()
