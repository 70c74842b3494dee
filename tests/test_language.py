"""The rules of the language subset that can be seen in a file's text or tree."""

import ast
import builtins
import pathlib
import re
import unittest

PACKAGE = pathlib.Path(__file__).resolve().parent.parent / "beadway"
FILES = sorted(PACKAGE.rglob("*.py"))
ALLOWED_BUILTINS = set("""len range enumerate zip min max sum abs sorted reversed int str bool bytes list tuple dict set
    frozenset isinstance ord repr any all divmod Exception ValueError TypeError KeyError IndexError LookupError
    ZeroDivisionError ArithmeticError OverflowError RuntimeError NotImplementedError AttributeError StopIteration
    NotImplemented""".split())
BARRED_WORDS = re.compile(r"\b(type|typing|typing_extensions|enum|Enum|IntEnum|StrEnum|Flag|IntFlag|Generic|Protocol|ABC"
                          r"|ABCMeta|namedtuple|NamedTuple|TypedDict|TYPE_CHECKING|abstractmethod)\b"
                          r"|dataclass|overload|contextmanager")
BARRED_NAMES = set("""register mro elements open input version_info with_traceback add_note attrgetter breakpoint builtins
    compile copyright credits delattr dir eval exec exit gc getattr globals hasattr help id importlib license locals
    methodcaller os quit setattr super type vars sys""".split())
LISTED = {
    "story": {"Story": "now events next back to push turn"},
    "answers": {name: "shows" for name in ("Meet", "Never", "One", "Parted", "Right", "Wrong")},
}
ATTRIBUTES_LIKE_METHODS = set("count index title find get join lower upper split strip copy add".split())
PLAIN = re.compile(r"[A-Za-z][A-Za-z0-9_]*\Z")


def trees():
    return [(path.name, ast.parse(path.read_text())) for path in FILES]


def nodes(*kinds):
    return [(name, node) for name, tree in trees() for node in ast.walk(tree) if isinstance(node, kinds)]


def docstring(node):
    return isinstance(node, ast.Expr) and isinstance(node.value, ast.Constant) and isinstance(node.value.value, str)


def bound_names():
    """Each name that a file gives a meaning, with its file."""
    found = [(name, node.id) for name, node in nodes(ast.Name) if isinstance(node.ctx, ast.Store)]
    found += [(name, node.arg) for name, node in nodes(ast.arg)]
    return found + [(name, node.name) for name, node in nodes(ast.FunctionDef, ast.ClassDef)]


class LanguageTest(unittest.TestCase):
    def test_files(self):
        self.assertTrue(FILES)
        for path in PACKAGE.rglob("*"):
            if path.name != "__pycache__" and path.suffix != ".pyc":
                self.assertRegex(path.name, r"\A([a-z][a-z0-9_]*|__init__|__main__)\.py\Z")

    def test_characters_and_sizes(self):
        for path in FILES:
            text = path.read_text()
            self.assertRegex(text, r"\A[ -~\n]*\Z", path.name)
            self.assertLessEqual(len(text.splitlines()), 400, path.name)
            self.assertLessEqual(max(len(row) for row in text.splitlines()), 120, path.name)
            self.assertIsNone(BARRED_WORDS.search(text), path.name)
        for name, node in nodes(ast.FunctionDef):
            self.assertLessEqual(node.end_lineno - node.lineno + 1, 40, (name, node.name))

    def test_module_level(self):
        allowed = (ast.ImportFrom, ast.FunctionDef, ast.ClassDef, ast.Assign)
        for name, tree in trees():
            for node in tree.body:
                self.assertTrue(docstring(node) or isinstance(node, allowed), (name, node.lineno))

    def test_imports(self):
        self.assertEqual(nodes(ast.Import), [])
        homes = {}
        for name, tree in trees():
            homes["beadway." + name[:-3]] = [node.name for node in tree.body if hasattr(node, "name")]
            homes["beadway." + name[:-3]] += [node.targets[0].id for node in tree.body if isinstance(node, ast.Assign)]
        for name, node in nodes(ast.ImportFrom):
            self.assertEqual(node.level, 0, name)
            for alias in node.names:
                self.assertIn(alias.name, homes[node.module], (name, node.lineno))

    def test_no_two_files_import_from_each_other(self):
        needs = {name[:-3]: set() for name, tree in trees()}
        for name, node in nodes(ast.ImportFrom):
            needs[name[:-3]].add(node.module.partition(".")[2])
        while needs:
            free = [name for name in needs if not needs[name] & set(needs)]
            self.assertTrue(free, sorted(needs))
            for name in free:
                del needs[name]

    def test_every_import_is_used(self):
        for name, tree in trees():
            used = {node.id for node in ast.walk(tree) if isinstance(node, ast.Name)}
            for node in tree.body:
                if isinstance(node, ast.ImportFrom):
                    for alias in node.names:
                        self.assertIn(alias.asname or alias.name, used, name)

    def test_names(self):
        for name, word in bound_names():
            self.assertTrue(PLAIN.match(word) or word.startswith("__"), (name, word))
            self.assertNotIn(word, BARRED_NAMES, name)
        for name, node in nodes(ast.Name):
            if hasattr(builtins, node.id):
                self.assertIsInstance(node.ctx, ast.Load, (name, node.id))
                self.assertIn(node.id, ALLOWED_BUILTINS, name)
        for name, node in nodes(ast.arg):
            self.assertFalse(hasattr(builtins, node.arg), (name, node.arg))

    def test_no_local_name_is_an_import_or_a_class(self):
        for name, tree in trees():
            taken = {alias.name for node in tree.body if isinstance(node, ast.ImportFrom) for alias in node.names}
            taken |= {node.name for node in tree.body if isinstance(node, ast.ClassDef)}
            for file, word in bound_names():
                if file == name and word in taken:
                    self.assertIn(word, [node.name for node in tree.body if isinstance(node, ast.ClassDef)], name)

    def test_no_float_no_parting_no_rising_power(self):
        for name, node in nodes(ast.Constant):
            self.assertNotIsInstance(node.value, (float, complex), (name, node.lineno))
            if isinstance(node.value, str):
                self.assertNotIn("%", node.value, (name, node.lineno))
        for name, node in nodes(ast.BinOp, ast.AugAssign):
            self.assertNotIsInstance(node.op, (ast.Div, ast.MatMult), (name, node.lineno))
            if isinstance(node.op, ast.Pow):
                self.assertIsInstance(node.right, ast.Constant, (name, node.lineno))

    def test_statements_and_errors(self):
        barred = (ast.Global, ast.AsyncFunctionDef, ast.Await, ast.AsyncFor, ast.AsyncWith)
        self.assertEqual(nodes(*barred), [])
        for name, node in nodes(ast.Raise):
            self.assertIsInstance(node.exc, (ast.Call, type(None)), (name, node.lineno))
        for name, node in nodes(ast.ExceptHandler):
            self.assertIsNotNone(node.type, (name, node.lineno))
        for name, node in nodes(ast.Compare):
            for sign, right in zip(node.ops, node.comparators):
                if isinstance(sign, (ast.Is, ast.IsNot)):
                    self.assertIn(getattr(right, "value", 0), (None, True, False), (name, node.lineno))

    def test_listed_methods_stand_in_their_classes(self):
        for name, tree in trees():
            for node in tree.body:
                listed = LISTED.get(name[:-3], {}).get(getattr(node, "name", None), "")
                own = [part.name for part in getattr(node, "body", []) if isinstance(part, ast.FunctionDef)]
                for method in listed.split():
                    self.assertEqual(own.count(method), 1, (name, method))

    def test_methods_and_attributes(self):
        methods = {part.name for name, node in nodes(ast.ClassDef) for part in node.body if hasattr(part, "name")}
        stored = {node.attr for name, node in nodes(ast.Attribute) if isinstance(node.ctx, ast.Store)}
        builtin = {word for kind in (str, int, list, tuple, dict, set, bytes) for word in dir(kind)}
        self.assertEqual(methods & stored, set())
        self.assertEqual(stored & builtin - ATTRIBUTES_LIKE_METHODS, set())
        self.assertEqual((methods - {"__init__"}) & builtin, set())
        for name, node in nodes(ast.Attribute):
            if isinstance(node.ctx, ast.Load):
                self.assertIn(node.attr, methods | stored | builtin, (name, node.lineno))


if __name__ == "__main__":
    unittest.main()
