"""Those rules of ../shared/LANGUAGE.md for the package's files that a short look can see."""

import ast
import builtins
import re
import unittest
from pathlib import Path

PACKAGE = Path(__file__).resolve().parent.parent / "turnyard"

# L3 to L7, L21: what is not here is not used.
NODES = """
Module Expr Constant ImportFrom alias FunctionDef arguments arg Lambda ClassDef Assign AugAssign If While For Return
Break Continue Pass Raise Try ExceptHandler Name Load Store Attribute Subscript Slice Call keyword List Tuple Dict Set
ListComp comprehension BinOp UnaryOp BoolOp Compare IfExp JoinedStr FormattedValue Add Sub Mult FloorDiv Mod Pow BitAnd
BitOr BitXor LShift RShift Invert USub UAdd Not And Or Eq NotEq Lt LtE Gt GtE Is IsNot In NotIn
""".split()

# L8, less chr (L27) and print (L9).
OWN_NAMES = """
len range enumerate zip min max sum abs sorted reversed int str bool list tuple dict set frozenset isinstance ord repr
any all divmod Exception ValueError TypeError KeyError IndexError LookupError ZeroDivisionError ArithmeticError
OverflowError RuntimeError NotImplementedError AttributeError StopIteration
""".split()

# L17, the last list.
WORDS = """
type typing typing_extensions enum Enum IntEnum StrEnum Flag IntFlag Generic Protocol ABC ABCMeta namedtuple NamedTuple
TypedDict TYPE_CHECKING abstractmethod
""".split()


# L25.
METHODS = """
append clear copy count endswith extend find get index insert isalnum isalpha isdigit islower isspace isupper items join
keys ljust lower lstrip partition pop remove replace reverse rfind rjust rpartition rsplit rstrip setdefault split
splitlines startswith strip update upper values zfill bit_length
""".split()


def files():
    return sorted(path for path in PACKAGE.rglob("*") if path.is_file() and path.parent.name != "__pycache__")


class Form(unittest.TestCase):
    def nodes(self):
        for path in files():
            for node in ast.walk(ast.parse(path.read_text())):
                yield path.name, node

    def test_files(self):
        self.assertIn(PACKAGE / "__init__.py", files())
        for path in files():
            self.assertRegex(path.name, r"^(__init__|[a-z][a-z0-9_]*)\.py$")

    def test_signs_and_sizes(self):
        for path in files():
            text = path.read_bytes().decode("ascii")
            self.assertEqual(re.findall(r"[^ -~\n]", text), [], path.name)
            rows = text.split("\n")
            self.assertLessEqual(len(rows), 400, path.name)
            self.assertLessEqual(max(len(row) for row in rows), 120, path.name)

    def test_words(self):
        for path in files():
            text = path.read_text()
            self.assertEqual([word for word in re.findall(r"\w+", text) if word in WORDS], [], path.name)
            self.assertEqual(re.findall(r"dataclass|overload|contextmanager", text), [], path.name)

    def test_nodes(self):
        for name, node in self.nodes():
            self.assertIn(type(node).__name__, NODES, (name, getattr(node, "lineno", 0)))

    def test_functions(self):
        for name, node in self.nodes():
            if isinstance(node, ast.FunctionDef):
                self.assertLessEqual(node.end_lineno - node.lineno + 1, 40, (name, node.name))
                self.assertEqual(node.decorator_list, [], (name, node.name))
                taken = node.args
                self.assertFalse(taken.vararg or taken.kwarg or taken.kwonlyargs or taken.posonlyargs, node.name)

    def test_imports(self):
        for name, node in self.nodes():
            if isinstance(node, ast.ImportFrom):
                self.assertEqual(node.level, 0, name)
                self.assertRegex(node.module, r"^turnyard\.[a-z_]+$", name)
                for alias in node.names:
                    self.assertNotEqual(alias.name, "*", name)

    def test_no_two_files_draw_from_one_another(self):
        drawn = {path.stem: set() for path in files()}
        for name, node in self.nodes():
            if isinstance(node, ast.ImportFrom):
                drawn[name[:-3]].add(node.module.split(".")[1])
        # A file that draws from none but dropped ones is dropped; files in a ring never are.
        while any(not others for others in drawn.values()):
            free = {name for name, others in drawn.items() if not others}
            drawn = {name: others - free for name, others in drawn.items() if name not in free}
        self.assertEqual(drawn, {})

    def test_no_local_is_called_like_an_import(self):
        for path in files():
            nodes = list(ast.walk(ast.parse(path.read_text())))
            imports = {alias.name for node in nodes if isinstance(node, ast.ImportFrom) for alias in node.names}
            bound = {node.id for node in nodes if isinstance(node, ast.Name) and isinstance(node.ctx, ast.Store)}
            bound |= {node.arg for node in nodes if isinstance(node, ast.arg)}
            self.assertEqual(imports & bound, set(), path.name)

    def test_methods(self):
        for name, node in self.nodes():
            if isinstance(node, ast.Attribute):
                self.assertIn(node.attr, METHODS, (name, node.lineno))

    def test_names(self):
        for name, node in self.nodes():
            if isinstance(node, ast.Name):
                self.assertFalse(node.id.startswith("_"), (name, node.id))
                if node.id in dir(builtins):
                    self.assertIn(node.id, OWN_NAMES, (name, node.lineno))
                    self.assertIsInstance(node.ctx, ast.Load, (name, node.lineno))
            if isinstance(node, (ast.FunctionDef, ast.ClassDef)):
                self.assertNotIn(node.name, dir(builtins), name)
            if isinstance(node, ast.arg):
                self.assertNotIn(node.arg, dir(builtins), name)


if __name__ == "__main__":
    unittest.main()
