"""The rules of the program's small language that can be read off its files."""

import ast
import builtins
import pathlib
import re
import unittest
import warnings

ROOT = pathlib.Path(__file__).resolve().parent.parent
PACKAGE = ROOT / "latchgrove"
FILES = sorted(PACKAGE.rglob("*.py"))

NODES = (
    ast.Module, ast.FunctionDef, ast.ClassDef, ast.arguments, ast.arg, ast.Return, ast.Assign, ast.AugAssign, ast.For,
    ast.While, ast.If, ast.Raise, ast.Try, ast.ExceptHandler, ast.Assert, ast.Delete, ast.ImportFrom, ast.alias,
    ast.Expr, ast.Pass, ast.Break, ast.Continue, ast.BoolOp, ast.BinOp, ast.UnaryOp, ast.Lambda, ast.IfExp, ast.Dict,
    ast.ListComp, ast.DictComp, ast.comprehension, ast.Compare, ast.Call, ast.keyword, ast.Constant, ast.Attribute,
    ast.Subscript, ast.Starred, ast.Name, ast.List, ast.Tuple, ast.Slice, ast.JoinedStr, ast.FormattedValue,
    ast.expr_context, ast.boolop, ast.operator, ast.unaryop, ast.cmpop,
)
BUILTINS = set(
    "len range enumerate zip min max sum abs sorted reversed int str bool list tuple dict isinstance ord repr any all "
    "divmod ValueError KeyError IndexError super NotImplemented".split())
METHODS = set(
    "append clear copy count endswith extend find get index insert isalnum isalpha isdigit islower isspace isupper "
    "items join keys ljust lower lstrip partition pop remove replace reverse rfind rjust rpartition rsplit rstrip "
    "setdefault split splitlines startswith strip update upper values zfill bit_length".split())
MODIFIERS = set("append clear extend insert pop remove reverse setdefault update".split())
WRAPPERS = ("enumerate", "zip", "reversed")
DOUBLE = {"__init__", "__eq__", "__repr__", "__str__", "__len__"}
LIBRARY = {"heapq", "math", "itertools", "collections"}
BARRED_NAMES = set("register mro elements open input law version_info with_traceback add_note".split())
BARRED_WORDS = re.compile(r"\b(type(?!\()|typing|typing_extensions|[eE]num|IntEnum|StrEnum|Flag|IntFlag|Generic|Protocol|"
                          r"ABC|ABCMeta|[nN]amed[tT]uple|TypedDict|TYPE_CHECKING|abstractmethod)\b|"
                          r"dataclass|overload|contextmanager|_wall|_WallAttr")


def read(path):
    text = path.read_text(encoding="utf-8")
    return text, ast.parse(text)


def bound_in(function):
    """The parameters, local variables and nested functions of a function."""
    names = []
    for node in ast.walk(function):
        if isinstance(node, ast.arg):
            names.append(node.arg)
        elif isinstance(node, ast.Name) and not isinstance(node.ctx, ast.Load):
            names.append(node.id)
        elif isinstance(node, ast.FunctionDef) and node is not function:
            names.append(node.name)
    return names


def is_append(node):
    return (isinstance(node, ast.Call) and isinstance(node.func, ast.Attribute) and node.func.attr == "append"
            and isinstance(node.func.value, (ast.Name, ast.Attribute)) and len(node.args) == 1 and not node.keywords)


def is_simple(node):
    """Whether a finally may assign or append it: a name, an attribute, a literal, or a row of such."""
    if isinstance(node, ast.Attribute):
        return is_simple(node.value)
    if isinstance(node, (ast.Tuple, ast.List)):
        return all(is_simple(part) for part in node.elts)
    return isinstance(node, (ast.Name, ast.Constant))


class LanguageTest(unittest.TestCase):
    def each(self):
        for path in FILES:
            text, module = read(path)
            yield str(path.relative_to(ROOT)), text, module

    def test_the_folder(self):
        for path in PACKAGE.rglob("*"):
            if "__pycache__" in path.parts:
                continue
            if path.is_dir():
                self.assertTrue((path / "__init__.py").is_file(), path)
                self.assertFalse(path.with_suffix(".py").exists(), path)
            else:
                self.assertEqual(path.suffix, ".py")
            self.assertRegex(path.stem, r"^([a-z][a-z0-9_]*|__init__)$")
        self.assertLessEqual(len(FILES), 100)

    def test_sizes_and_characters(self):
        for name, text, module in self.each():
            self.assertLessEqual(len(text.splitlines()), 399, name)
            self.assertTrue(text.endswith("\n") and not text.endswith("\n\n"), name)
            for line in text.split("\n"):
                self.assertLessEqual(len(line), 120, name)
                self.assertRegex(line, r"^[ -~]*$", name)
                self.assertEqual(line, line.rstrip(), name)
            for node in ast.walk(module):
                if isinstance(node, ast.FunctionDef):
                    self.assertLessEqual(node.end_lineno - node.lineno + 1, 40, node.name)

    def test_python_gives_no_warning(self):
        with warnings.catch_warnings():
            warnings.simplefilter("error")
            for name, text, _ in self.each():
                compile(text, name, "exec")

    def test_nodes(self):
        for name, text, module in self.each():
            for node in ast.walk(module):
                self.assertIsInstance(node, NODES, (name, getattr(node, "lineno", None)))
                self.assertNotIsInstance(node, (ast.Div, ast.MatMult), name)
                if isinstance(node, ast.Constant):
                    self.assertNotIsInstance(node.value, (float, complex))
                    if isinstance(node.value, str):
                        self.assertNotIn("%", node.value)
                if isinstance(node, (ast.FunctionDef, ast.ClassDef)):
                    self.assertEqual(node.decorator_list, [])
                    self.assertIsNotNone(ast.get_docstring(node) or node.name in DOUBLE or None, node.name)
                if isinstance(node, ast.Compare):
                    for op, right in zip(node.ops, node.comparators):
                        if isinstance(op, (ast.Is, ast.IsNot)):
                            self.assertIn(right.value, (None, True, False))
                if isinstance(node, ast.BinOp) and isinstance(node.op, ast.Pow):
                    self.assertIn(node.right.value, range(65))

    def test_module_level(self):
        for name, text, module in self.each():
            bound = []
            for node in module.body:
                self.assertIsInstance(node, (ast.Expr, ast.ImportFrom, ast.FunctionDef, ast.ClassDef, ast.Assign))
                if isinstance(node, ast.Expr):
                    self.assertIsInstance(node.value.value, str)
                elif isinstance(node, ast.ImportFrom):
                    bound += [alias.name for alias in node.names]
                elif isinstance(node, ast.Assign):
                    bound += [target.id for target in node.targets]
                    self.assertEqual(len(node.targets), 1)
                else:
                    bound.append(node.name)
            self.assertEqual(len(bound), len(set(bound)), name)
            self.assertFalse(set(bound) & set(dir(builtins)), name)

    def test_imports(self):
        graph = {}
        for path in FILES:
            text, module = read(path)
            own = ".".join(path.relative_to(ROOT).with_suffix("").parts)
            graph[own] = []
            late = False
            for node in module.body:
                late = late or isinstance(node, (ast.Assign, ast.FunctionDef, ast.ClassDef))
                if not isinstance(node, ast.ImportFrom):
                    continue
                self.assertFalse(late, own)
                self.assertEqual(node.level, 0)
                self.assertTrue(all(alias.asname is None and alias.name != "*" for alias in node.names))
                if node.module in LIBRARY:
                    continue
                target = ROOT.joinpath(*node.module.split(".")).with_suffix(".py")
                self.assertTrue(target.is_file(), (own, node.module))
                _, there = read(target)
                defined = [one.name for one in there.body if isinstance(one, (ast.FunctionDef, ast.ClassDef))]
                defined += [one.targets[0].id for one in there.body if isinstance(one, ast.Assign)]
                for alias in node.names:
                    self.assertIn(alias.name, defined, own)
                graph[own].append(node.module)
                used = {one.id for one in ast.walk(module) if isinstance(one, ast.Name)}
                self.assertTrue({alias.name for alias in node.names} <= used, (own, node.module))
        gone = True
        while gone:
            gone = [one for one, others in graph.items() if not any(other in graph for other in others)]
            graph = {one: others for one, others in graph.items() if one not in gone}
        self.assertEqual(graph, {}, "files that import from each other")

    def test_names(self):
        for name, text, module in self.each():
            imported = {alias.name for node in module.body if isinstance(node, ast.ImportFrom) for alias in node.names}
            classes = {node.name for node in module.body if isinstance(node, ast.ClassDef)}
            top = {node.name for node in module.body if isinstance(node, (ast.FunctionDef, ast.ClassDef))}
            top |= {node.targets[0].id for node in module.body if isinstance(node, ast.Assign)}
            for node in ast.walk(module):
                if isinstance(node, ast.FunctionDef):
                    bound = set(bound_in(node))
                    self.assertFalse(bound & (imported | classes | set(dir(builtins))), (name, node.name))
                    self.assertFalse(bound & BARRED_NAMES, name)
                    known = bound | imported | top | BUILTINS
                    for one in ast.walk(node):
                        if isinstance(one, ast.Name) and isinstance(one.ctx, ast.Load):
                            self.assertIn(one.id, known, (name, node.name))
                            self.assertNotEqual(one.id, "_", (name, node.name))
                    if node.name.startswith("__"):
                        self.assertIn(node.name, DOUBLE)
            self.assertIsNone(BARRED_WORDS.search(text), name)

    def test_what_a_loop_goes_over_is_not_modified_in_it(self):
        for name, text, module in self.each():
            for loop in [node for node in ast.walk(module) if isinstance(node, ast.For)]:
                over = loop.iter
                while isinstance(over, ast.Call) and isinstance(over.func, ast.Name) and over.func.id in WRAPPERS and over.args:
                    over = over.args[0]
                if isinstance(over, ast.Call) and isinstance(over.func, ast.Attribute) and over.func.attr in ("items", "values"):
                    over = over.func.value
                gone_over = ast.unparse(over)
                for node in [one for row in loop.body for one in ast.walk(row)]:
                    if isinstance(node, ast.Call) and isinstance(node.func, ast.Attribute) and node.func.attr in MODIFIERS:
                        self.assertNotEqual(ast.unparse(node.func.value), gone_over, (name, node.lineno))
                    if isinstance(node, ast.Subscript) and not isinstance(node.ctx, ast.Load):
                        self.assertNotEqual(ast.unparse(node.value), gone_over, (name, node.lineno))
                    if isinstance(node, (ast.Name, ast.Attribute)) and not isinstance(node.ctx, ast.Load):
                        self.assertNotEqual(ast.unparse(node), gone_over, (name, node.lineno))

    def test_finally(self):
        for name, text, module in self.each():
            for node in [one for one in ast.walk(module) if isinstance(one, ast.Try)]:
                for row in node.finalbody:
                    if isinstance(row, ast.Expr):
                        # No class has a method or an attribute called append, as test_methods looks at.
                        self.assertTrue(is_append(row.value) and is_simple(row.value.args[0]), (name, row.lineno))
                        continue
                    self.assertIsInstance(row, ast.Assign, (name, row.lineno))
                    self.assertIsInstance(row.targets[0], (ast.Name, ast.Attribute))
                    self.assertTrue(is_simple(row.value), (name, row.lineno))

    def test_methods(self):
        own = {node.name for _, _, module in self.each() for one in ast.walk(module) if isinstance(one, ast.ClassDef)
               for node in one.body if isinstance(node, ast.FunctionDef)}
        assigned = {node.attr for _, _, module in self.each() for node in ast.walk(module)
                    if isinstance(node, ast.Attribute) and isinstance(node.ctx, ast.Store)}
        self.assertFalse(own & assigned)
        # Where a class has __eq__, rows are not sorted in place.
        self.assertFalse(any(isinstance(node, ast.Attribute) and node.attr == "sort"
                             for _, _, module in self.each() for node in ast.walk(module)))
        values = set(dir(str)) | set(dir(list)) | set(dir(dict)) | set(dir(set)) | set(dir(int)) | set(dir(bytes))
        for name, text, module in self.each():
            for node in ast.walk(module):
                if isinstance(node, ast.Call) and isinstance(node.func, ast.Attribute):
                    self.assertIn(node.func.attr, METHODS | own, name)
                elif isinstance(node, ast.Attribute):
                    self.assertIn(node.attr, METHODS | own | assigned, name)
        self.assertFalse((own - DOUBLE) & values)
        self.assertFalse(assigned & values)
