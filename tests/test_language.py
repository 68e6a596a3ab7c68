"""The rules of the language that plain counting can see: files, sizes, characters, imports and words."""

import ast
import builtins
import os
import re
import unittest

PACKAGE = os.path.join(os.path.dirname(os.path.dirname(os.path.abspath(__file__))), "worldtale")
BUILTINS = set(
    "len range enumerate zip min max sum abs sorted reversed int str bool list tuple dict set isinstance ord repr any "
    "all divmod ValueError".split()
)
BARRED_NAMES = set(
    "register mro elements open input law version_info with_traceback add_note breakpoint compile copyright credits "
    "delattr dir eval exec exit gc globals help id importlib license locals os quit super type vars sys".split()
)
BARRED_WORDS = re.compile(
    r"\b(typing|typing_extensions|enum|Enum|IntEnum|StrEnum|Flag|IntFlag|Generic|Protocol|ABC|ABCMeta|namedtuple|"
    r"NamedTuple|TypedDict|TYPE_CHECKING|abstractmethod|dataclass|overload|contextmanager|_wall|_WallAttr)\b"
)
BARRED_NODES = (
    ast.Lambda, ast.GeneratorExp, ast.Yield, ast.YieldFrom, ast.Global, ast.Await, ast.AsyncFunctionDef, ast.AnnAssign,
    ast.NamedExpr, ast.SetComp, ast.Set, ast.Import, ast.Div,
)
METHODS = set(
    "append clear copy count endswith extend find get index insert isalnum isalpha isdigit islower isspace isupper "
    "items join keys ljust lower lstrip partition pop remove replace reverse rfind rjust rpartition rsplit rstrip "
    "setdefault split splitlines startswith strip update upper values zfill bit_length".split()
)


def files():
    for name in sorted(os.listdir(PACKAGE)):
        if name != "__pycache__":
            with open(os.path.join(PACKAGE, name), encoding="ascii") as held:
                yield name, held.read()


def trees():
    for name, text in files():
        yield name, ast.parse(text)


class TestLanguage(unittest.TestCase):
    def test_files(self):
        names = [name for name, _ in files()]
        self.assertIn("__init__.py", names)
        for name in names:
            self.assertRegex(name, r"^[a-z_][a-z0-9_]*\.py$")
            self.assertFalse(name != "__init__.py" and hasattr(builtins, name[:-3]), name)

    def test_sizes_and_characters(self):
        for name, text in files():
            lines = text.split("\n")
            self.assertLessEqual(len(lines) - 1, 399, name)
            for line in lines:
                self.assertRegex(line, r"^[ -~]{0,120}$", name)
            self.assertIsNone(BARRED_WORDS.search(text), name)

    def test_strings(self):
        for name, tree in trees():
            texts = [node.value for node in ast.walk(tree) if isinstance(node, ast.Constant)]
            for text in texts:
                self.assertFalse(isinstance(text, str) and "%" in text, (name, text))

    def test_functions(self):
        for name, tree in trees():
            for node in ast.walk(tree):
                self.assertNotIsInstance(node, BARRED_NODES, name)
                if isinstance(node, (ast.FunctionDef, ast.ClassDef)):
                    self.assertEqual(node.decorator_list, [], name)
                if isinstance(node, ast.FunctionDef):
                    self.assertLessEqual(node.end_lineno - node.lineno + 1, 40, (name, node.name))

    def test_names(self):
        for name, tree in trees():
            for node in ast.walk(tree):
                if isinstance(node, ast.Name):
                    self.assertFalse(hasattr(builtins, node.id) and node.id not in BUILTINS, (name, node.id))
                    if isinstance(node.ctx, ast.Store):
                        self.assertFalse(hasattr(builtins, node.id), (name, node.id))
                given = [getattr(node, part, None) for part in ("id", "attr", "arg", "name")]
                self.assertEqual([word for word in given if word in BARRED_NAMES], [], name)

    def test_module_level(self):
        kinds = (ast.Expr, ast.ImportFrom, ast.FunctionDef, ast.ClassDef, ast.Assign)
        for name, tree in trees():
            bound = []
            for node in tree.body:
                self.assertIsInstance(node, kinds, name)
                if isinstance(node, ast.Expr):
                    self.assertIsInstance(node.value, ast.Constant, name)
                if isinstance(node, ast.Assign):
                    self.assertEqual(len(node.targets), 1, name)
                    bound.append(node.targets[0].id)
                if isinstance(node, ast.ImportFrom):
                    bound.extend([alias.asname or alias.name for alias in node.names])
                if isinstance(node, (ast.FunctionDef, ast.ClassDef)):
                    bound.append(node.name)
            self.assertEqual(len(bound), len(set(bound)), name)

    def test_imports_name_the_very_file(self):
        defined = {}
        for name, tree in trees():
            own = [node.name for node in tree.body if isinstance(node, (ast.FunctionDef, ast.ClassDef))]
            own.extend([node.targets[0].id for node in tree.body if isinstance(node, ast.Assign)])
            defined[f"worldtale.{name[:-3]}"] = own
        for name, tree in trees():
            for node in ast.walk(tree):
                if isinstance(node, ast.ImportFrom):
                    self.assertEqual(node.level, 0, name)
                    for alias in node.names:
                        self.assertIn(alias.name, defined[node.module], name)

    def test_no_two_files_import_from_each_other(self):
        asked = {}
        for name, tree in trees():
            nodes = [node for node in ast.walk(tree) if isinstance(node, ast.ImportFrom)]
            asked[f"worldtale.{name[:-3]}"] = {node.module for node in nodes}
        while asked:
            free = [name for name in asked if not asked[name] & set(asked)]
            self.assertNotEqual(free, [], f"these import from each other: {sorted(asked)}")
            for name in free:
                del asked[name]

    def test_methods(self):
        own = {node.name for _, tree in trees() for node in ast.walk(tree) if isinstance(node, ast.FunctionDef)}
        own_plain = {name for name in own if not name.startswith("__")}
        for name, tree in trees():
            for node in ast.walk(tree):
                if isinstance(node, ast.Call) and isinstance(node.func, ast.Attribute):
                    known = node.func.attr in METHODS or node.func.attr in own_plain or node.func.attr == "__init__"
                    self.assertTrue(known, (name, node.func.attr))


if __name__ == "__main__":
    unittest.main()
