"""The part of Python that the package keeps to: the rules that can be seen from a file alone, by their numbers."""

import ast
import builtins
import pathlib
import re
import unittest

PACKAGE = pathlib.Path(__file__).resolve().parent.parent / "fundsjoined"

BUILT_IN = set("""len range enumerate zip min max sum abs sorted reversed int str bool list tuple dict set frozenset
    isinstance ord repr any all divmod Exception ValueError TypeError KeyError IndexError LookupError ZeroDivisionError
    ArithmeticError OverflowError RuntimeError NotImplementedError AttributeError StopIteration""".split())
METHODS = set("""append clear copy count endswith extend find get index insert isalnum isalpha isdigit islower isspace
    isupper items join keys ljust lower lstrip partition pop remove replace reverse rfind rjust rpartition rsplit rstrip
    setdefault split splitlines startswith strip update upper values zfill bit_length""".split())
NOT_AS_NAMES = set("""register mro elements open input version_info with_traceback add_note attrgetter breakpoint
    builtins compile copyright credits delattr dir eval exec exit gc getattr globals hasattr help id importlib license
    locals methodcaller os quit setattr super type vars sys""".split())
NOWHERE = r"""\b(type|typing|typing_extensions|enum|Enum|IntEnum|StrEnum|Flag|IntFlag|Generic|Protocol|ABC|ABCMeta|
    namedtuple|NamedTuple|TypedDict|TYPE_CHECKING|abstractmethod)\b|dataclass|overload|contextmanager"""
NODES = (ast.Module, ast.FunctionDef, ast.ClassDef, ast.arguments, ast.arg, ast.ImportFrom, ast.alias, ast.Assign,
         ast.AugAssign, ast.If, ast.While, ast.For, ast.Return, ast.Break, ast.Continue, ast.Pass, ast.Raise, ast.Try,
         ast.ExceptHandler, ast.Expr, ast.Constant, ast.Name, ast.Attribute, ast.Subscript, ast.Slice, ast.Call,
         ast.keyword, ast.List, ast.Tuple, ast.Dict, ast.BinOp, ast.UnaryOp, ast.BoolOp, ast.Compare, ast.IfExp,
         ast.ListComp, ast.comprehension, ast.Lambda, ast.JoinedStr, ast.FormattedValue, ast.expr_context,
         ast.operator, ast.unaryop, ast.boolop, ast.cmpop)
METHODS_OF_CLASSES = ("__init__", "__eq__", "__repr__", "__str__", "__len__")
AT_THE_TOP = (ast.Expr, ast.ImportFrom, ast.FunctionDef, ast.ClassDef, ast.Assign)


def bound_names(tree):
    """Every name that the file gives to something, with its line."""
    for node in ast.walk(tree):
        if isinstance(node, (ast.FunctionDef, ast.ClassDef)):
            yield node.name, node.lineno
        elif isinstance(node, ast.arg):
            yield node.arg, node.lineno
        elif isinstance(node, ast.Name) and isinstance(node.ctx, ast.Store):
            yield node.id, node.lineno
        elif isinstance(node, ast.Attribute) and isinstance(node.ctx, ast.Store):
            yield node.attr, node.lineno


def top_names(tree):
    for node in tree.body:
        if isinstance(node, (ast.FunctionDef, ast.ClassDef)):
            yield node.name
        elif isinstance(node, ast.ImportFrom):
            for alias in node.names:
                yield alias.name
        elif isinstance(node, ast.Assign):
            yield node.targets[0].id


class Language(unittest.TestCase):

    def setUp(self):
        self.texts = {path: path.read_text("utf-8") for path in sorted(PACKAGE.glob("*.py"))}
        self.trees = {path: ast.parse(text) for path, text in self.texts.items()}

    def each_node(self, *kinds):
        for path, tree in self.trees.items():
            for node in ast.walk(tree):
                if isinstance(node, kinds):
                    yield f"{path.name}:{getattr(node, 'lineno', 0)}", node

    def test_files(self):
        """L1, L14."""
        for path in PACKAGE.iterdir():
            if path.name != "__pycache__":
                self.assertRegex(path.name, r"^([a-z][a-z0-9_]*|__init__|__main__)\.py$")
                self.assertNotIn(path.stem, dir(builtins))
        self.assertIn(PACKAGE / "__init__.py", self.texts)
        for path, text in self.texts.items():
            self.assertRegex(text, r"\A[ -~\n]*\Z", path.name)

    def test_imports(self):
        """L2, L16."""
        drawn = {}
        for path, tree in self.trees.items():
            rows = [node for node in ast.walk(tree) if isinstance(node, ast.ImportFrom)]
            drawn[path.stem] = {row.module.partition(".")[2] for row in rows}
            for row in rows:
                self.assertEqual((row.level, row.module.partition(".")[0]), (0, "fundsjoined"))
                own = self.trees[PACKAGE / (row.module.partition(".")[2] + ".py")]
                defined = {name for name in top_names(own)}
                defined -= {alias.name for node in own.body if isinstance(node, ast.ImportFrom) for alias in node.names}
                self.assertLessEqual({alias.name for alias in row.names}, defined, path.name)
                self.assertTrue(all(alias.asname is None for alias in row.names))
        while drawn:
            free = [stem for stem, others in drawn.items() if not others & set(drawn)]
            self.assertNotEqual(free, [], f"files that draw from one another: {sorted(drawn)}")
            for stem in free:
                drawn.pop(stem)

    def test_the_top_of_a_file(self):
        """L3, L15."""
        for path, tree in self.trees.items():
            names = list(top_names(tree))
            self.assertEqual(len(names), len(set(names)), path.name)
            for node in tree.body:
                self.assertIsInstance(node, AT_THE_TOP, f"{path.name}:{node.lineno}")
            inner = [name for node in tree.body if isinstance(node, (ast.FunctionDef, ast.ClassDef))
                     for child in node.body for name, line in bound_names(child)]
            inner += [node.arg for node in ast.walk(tree) if isinstance(node, ast.arg)]
            taken = {alias.name for node in tree.body if isinstance(node, ast.ImportFrom) for alias in node.names}
            taken |= {node.name for node in tree.body if isinstance(node, ast.ClassDef)}
            self.assertEqual((taken | set(dir(builtins))) & set(inner) - {"__init__"}, set(), path.name)

    def test_forms(self):
        """L4 to L7, L20, L27."""
        for place, node in self.each_node(ast.AST):
            self.assertIsInstance(node, NODES, place)
        for place, node in self.each_node(ast.Div, ast.MatMult, ast.Pow):
            self.fail(place)
        for place, node in self.each_node(ast.FunctionDef, ast.ClassDef):
            self.assertEqual(node.decorator_list, [], place)
        for place, node in self.each_node(ast.arguments):
            self.assertEqual((node.vararg, node.kwarg, node.kwonlyargs, node.posonlyargs), (None, None, [], []), place)
        for place, node in self.each_node(ast.Assign):
            self.assertEqual(len(node.targets), 1, place)
            self.assertNotIsInstance(node.targets[0], (ast.Tuple, ast.List), place)
        for place, node in self.each_node(ast.While, ast.For):
            self.assertEqual(node.orelse, [], place)
        for place, node in self.each_node(ast.ListComp):
            self.assertEqual(len(node.generators), 1, place)
        for place, node in self.each_node(ast.Constant):
            self.assertIn(type(node.value), (int, str, bool, type(None)), place)
            if isinstance(node.value, str):
                self.assertNotIn("%", node.value, place)

    def test_names(self):
        """L8, L12, L17."""
        for path, tree in self.trees.items():
            for name, line in bound_names(tree):
                if name not in METHODS_OF_CLASSES:
                    self.assertRegex(name, r"^[A-Za-z][A-Za-z0-9_]*$", f"{path.name}:{line}")
            self.assertIsNone(re.search(NOWHERE, self.texts[path], re.VERBOSE), path.name)
        for place, node in self.each_node(ast.Name):
            self.assertNotIn(node.id, NOT_AS_NAMES, place)
            self.assertTrue(node.id in BUILT_IN or node.id not in dir(builtins), place)
        for place, node in self.each_node(ast.FunctionDef, ast.ClassDef):
            self.assertNotIn(node.name, NOT_AS_NAMES | BUILT_IN, place)

    def test_methods(self):
        """L25, L26: a method is one of Python's own that may be used, or one of the package's own."""
        own = {child.name for place, node in self.each_node(ast.ClassDef) for child in node.body
               if isinstance(child, ast.FunctionDef)}
        for place, node in self.each_node(ast.Call):
            if isinstance(node.func, ast.Attribute):
                self.assertIn(node.func.attr, METHODS | own, place)
        python = set(dir(str) + dir(int) + dir(list) + dir(dict) + dir(set) + dir(bytes) + dir(tuple))
        for place, node in self.each_node(ast.Attribute):
            if isinstance(node.ctx, ast.Store):
                self.assertNotIn(node.attr, python, place)

    def test_size(self):
        """L10."""
        for path, text in self.texts.items():
            lines = text.splitlines()
            self.assertLessEqual(len(lines), 400, path.name)
            self.assertLessEqual(max([len(line) for line in lines], default=0), 120, path.name)
        for place, node in self.each_node(ast.FunctionDef):
            self.assertLessEqual(node.end_lineno - node.lineno + 1, 40, place)


if __name__ == "__main__":
    unittest.main()
