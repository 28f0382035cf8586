"""The package keeps to the Python subset it is written in, as far as this can be seen rule by rule."""

import ast
import builtins
import re
import unittest
from pathlib import Path

PACKAGE = Path(__file__).resolve().parent.parent / "graftform"
# Python itself may leave compiled files beside them, which are never committed.
FILES = sorted(path for path in PACKAGE.iterdir() if path.name != "__pycache__")

BUILTINS = set("""len range enumerate zip min max sum abs sorted reversed int str bool list tuple dict set
    isinstance ord repr any all divmod ValueError KeyError IndexError LookupError ZeroDivisionError
    RuntimeError NotImplementedError""".split())
METHODS = set("""append clear copy count endswith extend find get index insert isalnum isalpha isdigit islower
    isspace isupper items join keys ljust lower lstrip partition pop remove replace reverse rfind rjust rpartition
    rsplit rstrip setdefault split splitlines startswith strip update upper values zfill bit_length sort add
    discard""".split())
NO_NAMES = set("""register mro elements open input version_info with_traceback add_note attrgetter breakpoint builtins
    compile copyright credits delattr dir eval exec exit gc getattr globals hasattr help id importlib license locals
    methodcaller os quit setattr super type vars sys""".split())
NO_WORDS = set("""type typing typing_extensions enum Enum IntEnum StrEnum Flag IntFlag Generic Protocol ABC ABCMeta
    namedtuple NamedTuple TypedDict TYPE_CHECKING abstractmethod""".split())
DUNDERS = {"__init__"}
STATEMENTS = (
    ast.FunctionDef, ast.ClassDef, ast.ImportFrom, ast.Assign, ast.AugAssign, ast.If, ast.While, ast.For, ast.Return,
    ast.Break, ast.Continue, ast.Pass, ast.Raise, ast.Assert, ast.Delete, ast.Try, ast.Expr,
)
EXPRESSIONS = (
    ast.BoolOp, ast.BinOp, ast.UnaryOp, ast.IfExp, ast.Dict, ast.Set, ast.ListComp, ast.DictComp, ast.SetComp,
    ast.GeneratorExp, ast.Compare, ast.Call, ast.Constant, ast.Attribute, ast.Subscript, ast.Name, ast.List,
    ast.Tuple, ast.Slice, ast.Lambda, ast.JoinedStr, ast.FormattedValue,
)
ON_THE_SPOT = {"zip", "enumerate", "reversed", "range"}
TAKERS = {"list", "tuple", "dict", "sorted", "sum", "any", "all", "enumerate", "zip", "min", "max"}
GENERATOR_TAKERS = {"list", "tuple", "dict", "sorted", "sum", "min", "max", "any", "all"}


def parsed():
    for path in FILES:
        text = path.read_text(encoding="ascii")
        yield path, text, ast.parse(text)


def called_name(node):
    """The plain name that a call calls, or None."""
    if isinstance(node, ast.Call) and isinstance(node.func, ast.Name):
        return node.func.id
    return None


def bound_names(tree):
    """All names that are bound anywhere, but for methods and attributes."""
    methods = [item for node in ast.walk(tree) if isinstance(node, ast.ClassDef) for item in node.body]
    for node in ast.walk(tree):
        if isinstance(node, ast.Name) and isinstance(node.ctx, ast.Store):
            yield node, node.id
        elif isinstance(node, ast.arg):
            yield node, node.arg
        elif isinstance(node, ast.ClassDef) or isinstance(node, ast.FunctionDef) and node not in methods:
            yield node, node.name
        elif isinstance(node, ast.alias):
            yield node, node.asname or node.name
        elif isinstance(node, ast.ExceptHandler) and node.name:
            yield node, node.name


def top_names(tree):
    """The names that are bound at module level, imports left out."""
    for node in tree.body:
        if isinstance(node, (ast.FunctionDef, ast.ClassDef)):
            yield node.name
        elif isinstance(node, ast.Assign):
            yield node.targets[0].id


def imports(tree):
    return [node for node in ast.walk(tree) if isinstance(node, ast.ImportFrom)]


def modules():
    return {f"graftform.{path.stem}": tree for path, _, tree in parsed()}


class Files(unittest.TestCase):
    def test_only_plain_python_files(self):
        names = [path.name for path in FILES]
        self.assertIn("__init__.py", names)
        for name in names:
            self.assertTrue(name == "__init__.py" or re.fullmatch(r"[a-z][a-z0-9_]*\.py", name), name)
            self.assertNotIn(name[:-3], dir(builtins))
            self.assertNotRegex(name, r"^(law_|test|site|conftest)")

    def test_signs_lines_and_sizes(self):
        for path, text, tree in parsed():
            self.assertRegex(text, r"\A[\n -~]*\Z")
            lines = text.split("\n")
            self.assertLessEqual(len(lines) - 1, 400, path.name)
            for number, line in enumerate(lines, 1):
                self.assertLessEqual(len(line), 120, f"{path.name}:{number}")
            for node in ast.walk(tree):
                if isinstance(node, ast.FunctionDef):
                    self.assertLessEqual(node.end_lineno - node.lineno + 1, 40, f"{path.name}: {node.name}")

    def test_words_that_are_not_used(self):
        for path, text, _ in parsed():
            self.assertEqual(sorted(NO_WORDS & set(re.findall(r"\w+", text))), [], path.name)
            self.assertNotRegex(text, r"dataclass|overload|contextmanager")


class Names(unittest.TestCase):
    def test_imports(self):
        told = modules()
        for path, _, tree in parsed():
            top = list(top_names(tree))
            taken = [alias.name for node in imports(tree) for alias in node.names]
            self.assertEqual(len(top + taken), len(set(top + taken)), path.name)
            for node in imports(tree):
                self.assertIn(node, tree.body)
                self.assertEqual(node.level, 0)
                for alias in node.names:
                    self.assertIn(alias.name, list(top_names(told[node.module])), path.name)

    def test_no_two_files_import_from_each_other(self):
        needs = {name: {node.module for node in imports(tree)} for name, tree in modules().items()}
        while needs:
            free = [name for name in needs if not needs[name] & set(needs)]
            self.assertTrue(free, f"in a ring: {sorted(needs)}")
            for name in free:
                del needs[name]

    def test_bound_names(self):
        for path, _, tree in parsed():
            outer = {node.name for node in tree.body if isinstance(node, ast.ClassDef)}
            outer |= {alias.name for node in imports(tree) for alias in node.names}
            for node, name in bound_names(tree):
                where = f"{path.name}:{getattr(node, 'lineno', 0)}: {name}"
                self.assertRegex(name, r"^[A-Za-z][A-Za-z0-9_]*$", where)
                self.assertNotIn(name, dir(builtins), where)
                self.assertNotIn(name, NO_NAMES, where)
                if isinstance(node, (ast.Name, ast.arg)):
                    self.assertNotIn(name, outer, where)

    def test_read_names(self):
        for path, _, tree in parsed():
            known = {name for _, name in bound_names(tree)} | BUILTINS
            for node in ast.walk(tree):
                if isinstance(node, ast.Name) and isinstance(node.ctx, ast.Load):
                    self.assertIn(node.id, known, f"{path.name}:{node.lineno}")

    def test_methods_and_attributes(self):
        methods, attributes = set(), set()
        for _, _, tree in parsed():
            for node in ast.walk(tree):
                if isinstance(node, ast.ClassDef):
                    methods |= {item.name for item in node.body if isinstance(item, ast.FunctionDef)}
                elif isinstance(node, ast.Attribute) and isinstance(node.ctx, ast.Store):
                    attributes.add(node.attr)
        self.assertEqual(sorted(methods & attributes), [])
        self.assertEqual(sorted(name for name in methods if name.startswith("_") and name not in DUNDERS), [])
        for name in attributes:
            self.assertFalse(any(hasattr(kind, name) for kind in (str, int, list, dict, set, bytes)), name)
        for path, _, tree in parsed():
            for node in ast.walk(tree):
                if isinstance(node, ast.Attribute) and node.attr != "__init__":
                    self.assertIn(node.attr, methods | attributes | METHODS, f"{path.name}:{node.lineno}")


class Statements(unittest.TestCase):
    def test_module_level(self):
        for path, _, tree in parsed():
            for number, node in enumerate(tree.body):
                where = f"{path.name}:{node.lineno}"
                docstring = isinstance(node, ast.Expr) and isinstance(node.value, ast.Constant) and number == 0
                self.assertTrue(
                    docstring or isinstance(node, (ast.ImportFrom, ast.FunctionDef, ast.ClassDef, ast.Assign)), where)

    def test_kinds(self):
        for path, _, tree in parsed():
            for node in ast.walk(tree):
                if isinstance(node, ast.stmt):
                    self.assertIsInstance(node, STATEMENTS, f"{path.name}:{node.lineno}")
                elif isinstance(node, ast.expr):
                    self.assertIsInstance(node, EXPRESSIONS, f"{path.name}:{node.lineno}")
                elif isinstance(node, ast.operator):
                    self.assertNotIsInstance(node, (ast.Div, ast.Pow, ast.MatMult), path.name)

    def test_no_decorators_and_plain_defaults(self):
        for path, _, tree in parsed():
            for node in ast.walk(tree):
                if isinstance(node, (ast.FunctionDef, ast.ClassDef)):
                    self.assertEqual(node.decorator_list, [], path.name)
                if isinstance(node, ast.FunctionDef):
                    for default in node.args.defaults + node.args.kw_defaults:
                        self.assertIsInstance(default, ast.Constant, f"{path.name}: {node.name}")

    def test_constants(self):
        for path, _, tree in parsed():
            for node in ast.walk(tree):
                if isinstance(node, ast.Constant):
                    where = f"{path.name}:{node.lineno}"
                    self.assertIsInstance(node.value, (int, str, type(None)), where)
                    self.assertNotIn("%", str(node.value), where)

    def test_is_stands_beside_none_true_and_false_alone(self):
        for path, _, tree in parsed():
            for node in ast.walk(tree):
                if isinstance(node, ast.Compare):
                    for sign, right in zip(node.ops, node.comparators):
                        if isinstance(sign, (ast.Is, ast.IsNot)):
                            self.assertIsInstance(right, ast.Constant, f"{path.name}:{node.lineno}")

    def test_raise_makes_its_error_on_the_spot(self):
        for path, _, tree in parsed():
            for node in ast.walk(tree):
                if isinstance(node, ast.Raise) and node.exc is not None:
                    self.assertRegex(called_name(node.exc) or "", r"^[A-Z]", f"{path.name}:{node.lineno}")


class Spots(unittest.TestCase):
    """What may stand only where it is iterated at once."""

    def allowed(self, tree, takers):
        spots = []
        for node in ast.walk(tree):
            if isinstance(node, (ast.For, ast.comprehension)):
                spots.append(node.iter)
            elif called_name(node) in takers:
                spots.extend(node.args[:1])
            elif isinstance(node, ast.Call) and isinstance(node.func, ast.Attribute) and node.func.attr == "join":
                spots.extend(node.args[:1])
        return spots

    def test_iterated_at_once(self):
        for path, _, tree in parsed():
            spots = self.allowed(tree, TAKERS)
            for node in ast.walk(tree):
                if called_name(node) in ON_THE_SPOT or (
                        isinstance(node, ast.Call) and isinstance(node.func, ast.Attribute)
                        and node.func.attr in ("items", "keys", "values")):
                    inside_reversed = called_name(node) == "range" and any(
                        called_name(outer) == "reversed" and node in outer.args for outer in ast.walk(tree))
                    self.assertTrue(node in spots or inside_reversed, f"{path.name}:{node.lineno}")

    def test_generator_expressions(self):
        for path, _, tree in parsed():
            spots = self.allowed(tree, GENERATOR_TAKERS)
            for node in ast.walk(tree):
                if isinstance(node, ast.GeneratorExp):
                    self.assertIn(node, spots, f"{path.name}:{node.lineno}")

    def test_sets_stand_in_sorted_len_or_behind_in(self):
        for path, _, tree in parsed():
            spots = []
            for node in ast.walk(tree):
                if called_name(node) in ("sorted", "len"):
                    spots.extend(node.args)
                elif isinstance(node, ast.Compare):
                    spots.extend(node.comparators)
            for node in ast.walk(tree):
                if isinstance(node, (ast.Set, ast.SetComp)) or called_name(node) == "set":
                    self.assertIn(node, spots, f"{path.name}:{node.lineno}")


if __name__ == "__main__":
    unittest.main()
