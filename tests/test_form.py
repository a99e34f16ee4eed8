"""The form of the package's files: what of ../shared/LANGUAGE.md can be read off the code by plain looks."""

import ast
import builtins
import pathlib
import re
import unittest

PACKAGE = pathlib.Path(__file__).resolve().parent.parent / "switchhall"

NODES = """Module FunctionDef ClassDef Lambda arguments arg Import ImportFrom alias Assign AugAssign If While For Return
Break Continue Pass Raise Try ExceptHandler Expr Constant List Tuple Dict Set BinOp UnaryOp BoolOp Compare IfExp Call
keyword Attribute Subscript Slice ListComp comprehension JoinedStr FormattedValue Name Load Store And Or Not UAdd USub
Invert Add Sub Mult FloorDiv Mod Pow BitAnd BitOr BitXor LShift RShift Eq NotEq Lt LtE Gt GtE Is IsNot In NotIn""".split()

OWN_NAMES = """len range enumerate zip min max sum abs sorted reversed int str bool list tuple dict set frozenset
isinstance ord repr any all divmod Exception ValueError TypeError KeyError IndexError LookupError ZeroDivisionError
ArithmeticError OverflowError RuntimeError NotImplementedError AttributeError StopIteration True False None""".split()

OWN_METHODS = """append clear copy count endswith extend find get index insert isalnum isalpha isdigit islower isspace
isupper items join keys ljust lower lstrip partition pop remove replace reverse rfind rjust rpartition rsplit rstrip
setdefault split splitlines startswith strip update upper values zfill bit_length""".split()

DOUBLE = ["__init__", "__eq__", "__repr__", "__str__", "__len__"]

WORDS_OUT = re.compile(
    r"\b(type|typing|typing_extensions|enum|Enum|IntEnum|StrEnum|Flag|IntFlag|Generic|Protocol|ABC|ABCMeta|namedtuple"
    r"|NamedTuple|TypedDict|TYPE_CHECKING|abstractmethod)\b|dataclass|overload|contextmanager")

NAMES_OUT = """register mro elements open input version_info with_traceback add_note attrgetter breakpoint builtins
compile copyright credits delattr dir eval exec exit gc getattr globals hasattr help id importlib license locals
methodcaller os quit setattr super type vars sys""".split()

KEYWORDS = {"sorted": ["key", "reverse"], "min": ["key", "default"], "max": ["key", "default"], "sum": ["start"],
            "enumerate": ["start"], "zip": ["strict"]}
KINDS_TO_ASK = ["int", "str", "bool", "list", "tuple", "dict"]

WALKED_AT_ONCE = ["zip", "enumerate", "reversed", "range", "items", "keys", "values"]
WALKERS = ["list", "tuple", "dict", "sorted", "sum", "any", "all", "enumerate", "zip", "min", "max", "join"]
CHANGES = ["append", "clear", "extend", "insert", "pop", "remove", "reverse", "setdefault", "update"]

PYTHONS_ATTRIBUTES = set().union(*[dir(kind) for kind in (str, int, list, tuple, dict, set, bytes)])


def called(node):
    """The name by which a call calls, else None."""
    if not isinstance(node, ast.Call):
        return None
    return getattr(node.func, "id", None) or getattr(node.func, "attr", None)


def where(node):
    return (node.lineno, node.col_offset, node.end_lineno, node.end_col_offset)


def walked(node):
    """What a loop walks, itself or through enumerate and its like."""
    if called(node) in ("enumerate", "zip", "reversed"):
        return [inner for part in node.args for inner in walked(part)]
    if called(node) == "items":
        return walked(node.func.value)
    return [ast.unparse(node)]


def changed(node):
    """What a row changes by an index or by a call, else None."""
    if isinstance(node, ast.Subscript) and isinstance(node.ctx, ast.Store):
        return ast.unparse(node.value)
    if called(node) in CHANGES and isinstance(node.func, ast.Attribute):
        return ast.unparse(node.func.value)
    return None


class FormTest(unittest.TestCase):
    def files(self):
        return sorted(PACKAGE.glob("*.py"))

    def each_node(self, *kinds):
        for path in self.files():
            for node in ast.walk(ast.parse(path.read_text())):
                if isinstance(node, kinds):
                    yield path.name, node

    def test_files(self):
        for path in PACKAGE.iterdir():
            if path.name != "__pycache__":
                self.assertRegex(path.name, r"^(__init__|__main__|[a-z][a-z0-9_]*)\.py$")
                self.assertNotIn(path.stem, dir(builtins))

    def test_signs_sizes_and_words(self):
        for path in self.files():
            text = path.read_bytes().decode("ascii")
            self.assertRegex(text, r"\A[ -~\n]*\Z", path.name)
            self.assertLessEqual(text.count("\n"), 400, path.name)
            self.assertLessEqual(max(len(line) for line in text.split("\n")), 120, path.name)
            self.assertIsNone(WORDS_OUT.search(text), path.name)

    def test_only_the_told_part_of_the_language(self):
        for name, node in self.each_node(ast.AST):
            self.assertIn(node.__class__.__name__, NODES, (name, getattr(node, "lineno", 0)))

    def test_the_top_of_a_file(self):
        for path in self.files():
            bound = []
            for row in ast.parse(path.read_text()).body[1:]:
                self.assertIsInstance(row, (ast.ImportFrom, ast.FunctionDef, ast.ClassDef, ast.Assign), path.name)
                if isinstance(row, ast.ImportFrom):
                    bound += [said.asname or said.name for said in row.names]
                elif isinstance(row, ast.Assign):
                    bound.append(row.targets[0].id)
                    # No list or dict, plain or within one, so that none can be changed.
                    self.assertIsInstance(ast.literal_eval(row.value), (int, str, tuple), (path.name, row.lineno))
                    hash(ast.literal_eval(row.value))
                else:
                    bound.append(row.name)
            self.assertEqual(len(bound), len(set(bound)), path.name)

    def test_pythons_own_as_they_are_called(self):
        called_names = {(name, where(node.func)) for name, node in self.each_node(ast.Call)}
        asked_kinds = set()
        for name, node in self.each_node(ast.Call):
            if called(node) == "isinstance":
                parts = node.args[1].elts if isinstance(node.args[1], ast.Tuple) else [node.args[1]]
                for part in parts:
                    self.assertIn(part.id, KINDS_TO_ASK, (name, node.lineno))
                    asked_kinds.add((name, where(part)))
            if node.keywords and called(node) in OWN_NAMES + OWN_METHODS:
                for given in node.keywords:
                    self.assertIn(given.arg, KEYWORDS.get(called(node), []), (name, node.lineno))
        for name, node in self.each_node(ast.ClassDef):
            called_names |= {(name, where(base)) for base in node.bases}
        for name, node in self.each_node(ast.Name):
            if node.id in OWN_NAMES:
                self.assertTrue((name, where(node)) in called_names | asked_kinds, (name, node.lineno))

    def test_methods_are_called_where_they_stand(self):
        called_here = {(name, where(node.func)) for name, node in self.each_node(ast.Call)}
        methods = {row.name for name, node in self.each_node(ast.ClassDef) for row in node.body if hasattr(row, "name")}
        for name, node in self.each_node(ast.Attribute):
            if node.attr in OWN_METHODS or node.attr in methods:
                self.assertTrue((name, where(node)) in called_here, (name, node.lineno))

    def test_functions(self):
        for name, node in self.each_node(ast.FunctionDef):
            self.assertLessEqual(node.end_lineno - node.lineno + 1, 40, (name, node.name))
            self.assertEqual((node.decorator_list, node.returns), ([], None), (name, node.name))
            asked = node.args
            self.assertEqual((asked.posonlyargs, asked.kwonlyargs, asked.vararg, asked.kwarg), ([], [], None, None))

    def test_classes(self):
        for name, node in self.each_node(ast.ClassDef):
            self.assertLessEqual(len(node.bases), 1, (name, node.name))
            for row in node.body:
                self.assertIsInstance(row, (ast.FunctionDef, ast.Pass), (name, node.name))

    def test_loops_and_assignments(self):
        for name, node in self.each_node(ast.For, ast.While):
            self.assertEqual(node.orelse, [], (name, node.lineno))
        for name, node in self.each_node(ast.Assign):
            self.assertEqual(len(node.targets), 1, (name, node.lineno))
        for name, node in self.each_node(ast.Expr):
            told = node.lineno == 1 and isinstance(node.value, ast.Constant)
            self.assertTrue(told or isinstance(node.value, ast.Call), (name, node.lineno))

    def test_is_stands_beside_none_and_truths_alone(self):
        for name, node in self.each_node(ast.Compare):
            if any(isinstance(sign, (ast.Is, ast.IsNot)) for sign in node.ops):
                self.assertIsInstance(node.comparators[0], ast.Constant, (name, node.lineno))
                self.assertIn(node.comparators[0].value, (None, True, False), (name, node.lineno))

    def test_names(self):
        for name, node in self.each_node(ast.Name, ast.arg, ast.FunctionDef, ast.ClassDef):
            said = getattr(node, "id", None) or getattr(node, "arg", None) or getattr(node, "name", None)
            if said not in DOUBLE:
                self.assertRegex(said, r"^[A-Za-z][A-Za-z0-9_]*$", (name, node.lineno))
            if said in dir(builtins):
                self.assertIn(said, OWN_NAMES, (name, node.lineno))
                self.assertIsInstance(getattr(node, "ctx", None), ast.Load, (name, node.lineno))

    def test_attributes(self):
        for name, node in self.each_node(ast.Attribute):
            if node.attr in PYTHONS_ATTRIBUTES and node.attr not in DOUBLE:
                self.assertIn(node.attr, OWN_METHODS, (name, node.lineno))

    def test_names_that_are_not_used(self):
        for name, node in self.each_node(ast.Name, ast.arg, ast.FunctionDef, ast.ClassDef, ast.Attribute):
            for part in ("id", "arg", "name", "attr"):
                self.assertNotIn(getattr(node, part, None), NAMES_OUT, (name, node.lineno))

    def test_no_local_is_called_like_a_class_or_an_import(self):
        for path in self.files():
            nodes = list(ast.walk(ast.parse(path.read_text())))
            taken = [node.name for node in nodes if isinstance(node, (ast.ClassDef, ast.alias))]
            for node in nodes:
                if isinstance(node, ast.arg):
                    self.assertNotIn(node.arg, taken, (path.name, node.lineno))
                elif isinstance(node, ast.Name) and isinstance(node.ctx, ast.Store):
                    self.assertNotIn(node.id, taken, (path.name, node.lineno))

    def test_walked_at_once(self):
        walks = set()
        for name, node in self.each_node(ast.For, ast.comprehension, ast.Call):
            if not isinstance(node, ast.Call):
                walks.add((name, where(node.iter)))
            elif called(node) in WALKERS:
                firsts = node.args if called(node) in ("enumerate", "zip") else node.args[:1]
                walks |= {(name, where(first)) for first in firsts}
        for name, node in self.each_node(ast.Call):
            if called(node) in WALKED_AT_ONCE:
                self.assertTrue((name, where(node)) in walks, (name, node.lineno))

    def test_what_a_loop_walks_is_not_changed_in_it(self):
        for name, node in self.each_node(ast.For):
            for row in node.body:
                for inner in ast.walk(row):
                    self.assertNotIn(changed(inner), walked(node.iter), (name, node.lineno))

    def test_sets_are_not_kept(self):
        for name, node in self.each_node(ast.Assign, ast.AugAssign, ast.Return, ast.For):
            value = node.iter if isinstance(node, ast.For) else node.value
            self.assertNotIsInstance(value, ast.Set, (name, node.lineno))
            self.assertNotIn(called(value), ("set", "frozenset"), (name, node.lineno))

    def test_powers_and_texts(self):
        for name, node in self.each_node(ast.BinOp):
            if isinstance(node.op, ast.Pow):
                self.assertIsInstance(node.right, ast.Constant, (name, node.lineno))
        for name, node in self.each_node(ast.Constant):
            if isinstance(node.value, str):
                self.assertNotIn("%", node.value, (name, node.lineno))

    def test_no_name_is_a_method_here_and_a_value_there(self):
        methods = {row.name for name, node in self.each_node(ast.ClassDef) for row in node.body if hasattr(row, "name")}
        for name, node in self.each_node(ast.Attribute):
            if isinstance(node.ctx, ast.Store):
                self.assertNotIn(node.attr, methods, (name, node.lineno))

    def test_imports(self):
        drawn = {}
        for name, node in self.each_node(ast.Import, ast.ImportFrom):
            self.assertIsInstance(node, ast.ImportFrom, (name, node.lineno))
            self.assertEqual((node.level, node.col_offset), (0, 0), (name, node.lineno))
            self.assertRegex(node.module, r"^switchhall\.[a-z0-9_]+$", (name, node.lineno))
            source = node.module.split(".")[1] + ".py"
            drawn.setdefault(name, set()).add(source)
            for said in node.names:
                self.assertIn(said.name, self.defined_in(source), (name, node.lineno))
        self.assertNotIn("__init__.py", drawn)
        while drawn:
            ends = [name for name in drawn if not drawn[name] & set(drawn)]
            self.assertTrue(ends, "files draw from one another")
            drawn = {name: drawn[name] for name in drawn if name not in ends}

    def defined_in(self, source):
        defined = set()
        for row in ast.parse((PACKAGE / source).read_text()).body:
            if isinstance(row, (ast.FunctionDef, ast.ClassDef)):
                defined.add(row.name)
            elif isinstance(row, ast.Assign):
                defined.add(row.targets[0].id)
        return defined


if __name__ == "__main__":
    unittest.main()
