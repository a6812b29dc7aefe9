"""The package's files keep to the part of Python that the program is written in: files, imports, forms, sizes, names.

How sets, walks, keywords and handlers are used (L13, L19, L22 to L24) is not looked at here.
"""

import ast
import builtins
import pathlib
import re
import unittest

PACKAGE = pathlib.Path(__file__).resolve().parent.parent / "boxgalley"
FILES = sorted(PACKAGE.glob("*.py"))
SOURCES = {path.stem: path.read_text(encoding="utf-8") for path in FILES}
TREES = {stem: ast.parse(source) for stem, source in SOURCES.items()}

ERRORS = set("""Exception ValueError TypeError KeyError IndexError LookupError ZeroDivisionError ArithmeticError
    OverflowError RuntimeError NotImplementedError AttributeError StopIteration""".split())
OWN_NAMES = ERRORS | set("""len range enumerate zip min max sum abs sorted reversed int str bool list tuple dict set
    frozenset isinstance ord repr any all divmod""".split())
METHODS = set("""append clear copy count endswith extend find get index insert isalnum isalpha isdigit islower isspace
    isupper items join keys ljust lower lstrip partition pop remove replace reverse rfind rjust rpartition rsplit rstrip
    setdefault split splitlines startswith strip update upper values zfill bit_length""".split())
DUNDERS = ("__init__", "__eq__", "__repr__", "__str__", "__len__")
VALUE_NAMES = set("count index title find get join lower upper split strip copy add".split())
PYTHON_HAS = {name for kind in (str, int, list, dict, set, bytes, tuple) for name in dir(kind)} | {"args"}
BANNED = set("register mro elements open input version_info with_traceback add_note format format_map".split())
WORDS = re.compile(r"\b(type|typing|typing_extensions|enum|Enum|IntEnum|StrEnum|Flag|IntFlag|Generic|Protocol|ABC|"
                   r"ABCMeta|namedtuple|NamedTuple|TypedDict|TYPE_CHECKING|abstractmethod)\b|"
                   r"dataclass|overload|contextmanager")
NODES = set("""Module FunctionDef ClassDef Return Assign AugAssign For While If Raise Try ExceptHandler ImportFrom alias
    Expr Pass Break Continue BoolOp BinOp UnaryOp Lambda IfExp Dict ListComp comprehension Compare Call JoinedStr
    FormattedValue Constant Attribute Subscript Name List Tuple Slice Load Store And Or Add Sub Mult Mod Pow LShift
    RShift BitOr BitXor BitAnd FloorDiv Invert Not UAdd USub Eq NotEq Lt LtE Gt GtE Is IsNot In NotIn arguments arg
    keyword""".split())


def walked(kind):
    return [(stem, node) for stem, tree in TREES.items() for node in ast.walk(tree) if isinstance(node, kind)]


def top_names(tree):
    names = []
    for node in tree.body:
        if isinstance(node, (ast.FunctionDef, ast.ClassDef)):
            names.append(node.name)
        elif isinstance(node, ast.Assign):
            names.append(node.targets[0].id)
        elif isinstance(node, ast.ImportFrom):
            names.extend(alias.asname or alias.name for alias in node.names)
    return names


def plain_value(node, functions):
    if isinstance(node, ast.UnaryOp) and isinstance(node.op, ast.USub):
        return plain_value(node.operand, functions)
    if isinstance(node, (ast.List, ast.Tuple)):
        return all(plain_value(part, functions) for part in node.elts)
    if isinstance(node, ast.Dict):
        return all(plain_value(part, functions) for part in node.keys + node.values)
    return isinstance(node, ast.Constant) or (isinstance(node, ast.Name) and node.id in functions)


def class_values():
    return {node.attr for _, node in walked(ast.Attribute) if isinstance(node.ctx, ast.Store)}


def class_methods():
    return {part.name for _, node in walked(ast.ClassDef) for part in node.body if isinstance(part, ast.FunctionDef)}


class Files(unittest.TestCase):
    def test_only_plain_files(self):
        for path in PACKAGE.iterdir():
            if path.name != "__pycache__":
                self.assertRegex(path.name, r"^([a-z][a-z0-9_]*|__init__|__main__)\.py$")
                self.assertFalse(hasattr(builtins, path.stem) and not path.stem.startswith("_"), path.name)
                self.assertNotRegex(path.stem, r"^(tests?|testing|test_.*|site|conftest|(site|user)customize)$")
        self.assertIn("__init__", SOURCES)

    def test_signs_lines_and_words(self):
        for stem, source in SOURCES.items():
            self.assertEqual([sign for sign in source if sign != "\n" and not " " <= sign <= "~"], [], stem)
            self.assertLessEqual(len(source.splitlines()), 400, stem)
            self.assertEqual([line for line in source.splitlines() if len(line) > 120], [], stem)
            self.assertIsNone(WORDS.search(source), stem)
            self.assertIsNone(re.search(r"\\[^nt\\'\"]", source), stem)

    def test_tops(self):
        for stem, tree in TREES.items():
            self.assertIsNotNone(ast.get_docstring(tree), stem)
            functions = [node.name for node in tree.body if isinstance(node, ast.FunctionDef)]
            for node in tree.body[1:]:
                self.assertIsInstance(node, (ast.ImportFrom, ast.FunctionDef, ast.ClassDef, ast.Assign), stem)
                if isinstance(node, ast.Assign):
                    self.assertTrue(plain_value(node.value, functions), (stem, node.lineno))
            names = top_names(tree)
            self.assertEqual(len(names), len(set(names)), stem)

    def test_imports(self):
        drawn = {stem: [] for stem in TREES}
        for stem, node in walked(ast.ImportFrom):
            self.assertEqual((node.level, node.module.split(".")[0], node.module.count(".")), (0, "boxgalley", 1))
            other = node.module.split(".")[1]
            drawn[stem].append(other)
            defined = [part.name for part in TREES[other].body if isinstance(part, (ast.FunctionDef, ast.ClassDef))]
            defined += [part.targets[0].id for part in TREES[other].body if isinstance(part, ast.Assign)]
            for alias in node.names:
                self.assertIn(alias.name, defined, stem)
        while drawn:
            free = [stem for stem in drawn if not any(other in drawn for other in drawn[stem])]
            self.assertNotEqual(free, [], drawn)
            drawn = {stem: others for stem, others in drawn.items() if stem not in free}


class Forms(unittest.TestCase):
    def test_nodes(self):
        for stem, node in walked(ast.AST):
            self.assertIn(type(node).__name__, NODES, (stem, getattr(node, "lineno", None)))

    def test_functions(self):
        for stem, node in walked(ast.FunctionDef):
            self.assertLessEqual(node.end_lineno - node.lineno + 1, 40, (stem, node.name))
            self.assertEqual((node.decorator_list, node.args.vararg, node.args.kwarg), ([], None, None))
            self.assertEqual((node.args.kwonlyargs, node.args.posonlyargs, node.returns), ([], [], None))

    def test_classes(self):
        for stem, node in walked(ast.ClassDef):
            self.assertLessEqual(len(node.bases), 1)
            self.assertEqual((node.decorator_list, node.keywords), ([], []))
            self.assertIn(node, TREES[stem].body)
            for part in node.body:
                self.assertIsInstance(part, (ast.FunctionDef, ast.Pass), (stem, node.name))
        self.assertEqual(class_values() & class_methods(), set())
        self.assertEqual((class_values() & PYTHON_HAS) - VALUE_NAMES, set())
        self.assertEqual((class_methods() & PYTHON_HAS) - METHODS - {"add", "discard"} - set(DUNDERS), set())

    def test_statements(self):
        for stem, node in walked((ast.Assign, ast.For, ast.While, ast.Try, ast.Expr, ast.ExceptHandler)):
            place = (stem, node.lineno)
            if isinstance(node, ast.Assign):
                self.assertEqual(len(node.targets), 1, place)
                self.assertNotIsInstance(node.targets[0], (ast.Tuple, ast.List), place)
            elif isinstance(node, (ast.For, ast.While)):
                self.assertEqual(node.orelse, [], place)
            elif isinstance(node, ast.Try):
                self.assertEqual(node.finalbody, [], place)
            elif isinstance(node, ast.ExceptHandler):
                self.assertIsNotNone(node.type, place)
            elif node is not TREES[stem].body[0]:
                self.assertIsInstance(node.value, ast.Call, place)

    def test_expressions(self):
        for stem, node in walked((ast.comprehension, ast.ListComp, ast.BinOp, ast.Compare, ast.Constant)):
            if isinstance(node, ast.ListComp):
                self.assertEqual(len(node.generators), 1, (stem, node.lineno))
            elif isinstance(node, ast.comprehension):
                self.assertLessEqual(len(node.ifs), 1, stem)
            elif isinstance(node, ast.BinOp) and isinstance(node.op, ast.Pow):
                self.assertIsInstance(node.right, ast.Constant, (stem, node.lineno))
                self.assertIn(node.right.value, range(65), (stem, node.lineno))
            elif isinstance(node, ast.Compare) and isinstance(node.ops[0], (ast.Is, ast.IsNot)):
                self.assertIsInstance(node.comparators[0], ast.Constant, (stem, node.lineno))
                self.assertIn(node.comparators[0].value, (None, True, False), (stem, node.lineno))
            elif isinstance(node, ast.Constant):
                self.assertIsInstance(node.value, (int, str, bool, type(None)), (stem, node.lineno))
                self.assertNotIn("%", str(node.value), (stem, node.lineno))


class Names(unittest.TestCase):
    def test_python_s_own(self):
        for stem, node in walked(ast.Name):
            self.assertRegex(node.id, r"^[A-Za-z][A-Za-z0-9_]*$", stem)
            self.assertNotIn(node.id, BANNED, stem)
            if hasattr(builtins, node.id):
                self.assertIn(node.id, OWN_NAMES, (stem, node.lineno))

    def test_locals(self):
        bound = [(stem, node.id) for stem, node in walked(ast.Name) if isinstance(node.ctx, ast.Store)]
        bound += [(stem, node.arg) for stem, node in walked(ast.arg)]
        for stem, name in bound:
            self.assertFalse(hasattr(builtins, name), (stem, name))
            self.assertFalse(name.startswith("_"), (stem, name))
            for node in TREES[stem].body:
                if isinstance(node, ast.ClassDef):
                    self.assertNotEqual(name, node.name, stem)
                elif isinstance(node, ast.ImportFrom):
                    self.assertNotIn(name, [alias.name for alias in node.names], stem)

    def test_methods(self):
        free = METHODS | class_methods() | class_values()
        for stem, node in walked(ast.Attribute):
            self.assertIn(node.attr, free, (stem, node.lineno))
            self.assertNotIn(node.attr, BANNED, (stem, node.lineno))
        for name in class_methods():
            self.assertTrue(name in DUNDERS or not name.startswith("_"), name)


if __name__ == "__main__":
    unittest.main()
