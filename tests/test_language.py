"""The package keeps to the rules of LANGUAGE.md that can be looked up without much ado."""

import ast
import builtins
import pathlib
import re
import unittest

PACKAGE = pathlib.Path(__file__).resolve().parent.parent / "sheetslent"
FILES = sorted(path for path in PACKAGE.iterdir() if path.name != "__pycache__")
OWN_NAMES = set("""len range enumerate zip min max sum abs sorted reversed int str bool list tuple dict set frozenset
    isinstance ord repr any all divmod Exception ValueError TypeError KeyError IndexError LookupError
    ZeroDivisionError ArithmeticError OverflowError RuntimeError NotImplementedError AttributeError
    StopIteration""".split())
METHODS = set("""append clear copy count endswith extend find get index insert isalnum isalpha isdigit islower isspace
    isupper items join keys ljust lower lstrip partition pop remove replace reverse rfind rjust rpartition rsplit
    rstrip setdefault split splitlines startswith strip update upper values zfill bit_length""".split())
BARRED_WORDS = """type typing typing_extensions enum Enum IntEnum StrEnum Flag IntFlag Generic Protocol ABC ABCMeta
    namedtuple NamedTuple TypedDict TYPE_CHECKING abstractmethod""".split()
BARRED_NAMES = set("""register mro elements open input version_info with_traceback add_note attrgetter breakpoint
    builtins compile copyright credits delattr dir eval exec exit gc getattr globals hasattr help id importlib license
    locals methodcaller os quit setattr super type vars sys print chr""".split())
BARRED_NODES = (ast.With, ast.Match, ast.Delete, ast.Global, ast.Nonlocal, ast.Assert, ast.Yield, ast.YieldFrom,
                ast.AsyncFunctionDef, ast.Await, ast.SetComp, ast.DictComp, ast.GeneratorExp, ast.NamedExpr,
                ast.Starred, ast.Div, ast.Import, ast.AnnAssign)
VALUES_OF_PYTHON = (str, int, list, dict, set, bytes, tuple)


def defs(tree):
    return [node for node in ast.walk(tree) if isinstance(node, ast.FunctionDef)]


def bound_names(tree):
    names = [node.name for node in ast.walk(tree) if isinstance(node, (ast.FunctionDef, ast.ClassDef))]
    names += [node.arg for node in ast.walk(tree) if isinstance(node, ast.arg)]
    return names + [node.id for node in ast.walk(tree) if isinstance(node, ast.Name)
                    and isinstance(node.ctx, ast.Store)]


class LanguageTest(unittest.TestCase):
    def each_tree(self):
        return [(path, ast.parse(path.read_text(encoding="utf-8"))) for path in FILES]

    def test_files(self):
        for path in FILES:
            self.assertRegex(path.name, r"\A[a-z_0-9]+\.py\Z")
            self.assertNotIn(path.stem, set(dir(builtins)) | set(BARRED_WORDS) | {"test", "tests", "testing", "site"})
        self.assertIn("__init__.py", [path.name for path in FILES])

    def test_size_and_signs(self):
        for path in FILES:
            text = path.read_text(encoding="utf-8")
            self.assertRegex(text, r"\A[ -~\n]*\Z")
            self.assertLessEqual(len(text.splitlines()), 400)
            self.assertLessEqual(max(len(row) for row in text.splitlines()), 120)
            for word in BARRED_WORDS:
                self.assertIsNone(re.search(r"\b%s\b" % word, text), word)
            self.assertIsNone(re.search("dataclass|overload|contextmanager", text))
        for path, tree in self.each_tree():
            for node in defs(tree):
                self.assertLessEqual(node.end_lineno - node.lineno + 1, 40, node.name)

    def test_imports(self):
        stems = [path.stem for path in FILES]
        for path, tree in self.each_tree():
            for node in ast.walk(tree):
                if isinstance(node, ast.ImportFrom):
                    self.assertIn(node, tree.body)
                    self.assertEqual(node.level, 0)
                    package, stem = node.module.split(".")
                    self.assertEqual(package, "sheetslent")
                    self.assertIn(stem, stems)
                    origin = ast.parse((PACKAGE / (stem + ".py")).read_text(encoding="utf-8"))
                    for alias in node.names:
                        self.assertIn(alias.name, bound_names(origin))

    def test_no_two_files_draw_from_one_another(self):
        drawn = {path.stem: [node.module.split(".")[1] for node in tree.body if isinstance(node, ast.ImportFrom)]
                 for path, tree in self.each_tree()}
        while drawn:
            free = [stem for stem, sources in drawn.items() if not set(sources) & set(drawn)]
            self.assertNotEqual(free, [], drawn)
            for stem in free:
                drawn.pop(stem)

    def test_statements_and_expressions(self):
        for path, tree in self.each_tree():
            for node in ast.walk(tree):
                self.assertNotIsInstance(node, BARRED_NODES)
                if isinstance(node, ast.Assign):
                    self.assertEqual(len(node.targets), 1)
                if isinstance(node, (ast.For, ast.While)):
                    self.assertEqual(node.orelse, [])
                if isinstance(node, ast.ListComp):
                    self.assertEqual(len(node.generators), 1)
                    self.assertLessEqual(len(node.generators[0].ifs), 1)
                if isinstance(node, ast.Constant):
                    self.assertNotIsInstance(node.value, (float, bytes, complex))
                if isinstance(node, (ast.FunctionDef, ast.ClassDef)):
                    self.assertEqual(node.decorator_list, [])
                if isinstance(node, ast.arguments):
                    self.assertEqual((node.vararg, node.kwarg, node.kwonlyargs), (None, None, []))

    def test_names(self):
        for path, tree in self.each_tree():
            bound = [name for name in bound_names(tree) if name != "__init__"]
            for name in bound:
                self.assertRegex(name, r"\A[A-Za-z][A-Za-z0-9_]*\Z")
                self.assertFalse(hasattr(builtins, name), name)
                self.assertNotIn(name, BARRED_NAMES)
            imported = [alias.name for node in tree.body if isinstance(node, ast.ImportFrom) for alias in node.names]
            self.assertEqual(set(bound) & set(imported), set())
            for node in ast.walk(tree):
                if isinstance(node, ast.Name) and hasattr(builtins, node.id):
                    self.assertIn(node.id, OWN_NAMES)

    def test_methods_and_values(self):
        own_methods = {node.name for path, tree in self.each_tree() for made in tree.body
                       if isinstance(made, ast.ClassDef) for node in defs(made)}
        values = {node.attr for path, tree in self.each_tree() for node in ast.walk(tree)
                  if isinstance(node, ast.Attribute) and isinstance(node.ctx, ast.Store)}
        self.assertEqual(own_methods & values, set())
        for name in values:
            self.assertFalse(any(hasattr(kind, name) for kind in VALUES_OF_PYTHON), name)
        for path, tree in self.each_tree():
            for node in ast.walk(tree):
                if isinstance(node, ast.Call) and isinstance(node.func, ast.Attribute):
                    self.assertIn(node.func.attr, METHODS | own_methods)

    def test_the_top_of_a_module(self):
        plain = (ast.ImportFrom, ast.FunctionDef, ast.ClassDef, ast.Assign)
        for path, tree in self.each_tree():
            self.assertIsNotNone(ast.get_docstring(tree))
            for node in tree.body[1:]:
                self.assertIsInstance(node, plain)
                if isinstance(node, ast.Assign):
                    ast.literal_eval(node.value)


if __name__ == "__main__":
    unittest.main()
