"""Those rules of the language that are plain to see in the files of the package."""

import ast
import builtins
import pathlib
import re
import unittest

PACKAGE = pathlib.Path(__file__).resolve().parent.parent / "partwares"
BARRED_WORDS = (
    "type", "typing", "typing_extensions", "enum", "Enum", "IntEnum", "StrEnum", "Flag", "IntFlag", "Generic",
    "Protocol", "ABC", "ABCMeta", "namedtuple", "NamedTuple", "TypedDict", "TYPE_CHECKING", "abstractmethod",
)
BARRED_PARTS = ("dataclass", "overload", "contextmanager")
BUILTINS = (
    "len", "range", "enumerate", "zip", "min", "max", "sum", "abs", "sorted", "reversed", "int", "str", "bool", "list",
    "tuple", "dict", "set", "isinstance", "ord", "repr", "any", "all", "divmod", "super", "ValueError",
)
DOUBLE_UNDERSCORED = ("__init__", "__eq__", "__len__", "__str__", "__repr__")


def files():
    """The files of the package, with their texts."""
    return [(path.name, path.read_text(encoding="utf-8")) for path in sorted(PACKAGE.rglob("*.py"))]


def nodes():
    """All nodes of all files, with the names of the files."""
    return [(name, node) for name, text in files() for node in ast.walk(ast.parse(text))]


class LanguageTest(unittest.TestCase):
    def test_the_folder_has_nothing_but_plain_files(self):
        for path in PACKAGE.iterdir():
            if path.name != "__pycache__":
                self.assertRegex(path.name, r"\A(__init__|[a-z][a-z0-9_]*)\.py\Z")
        self.assertTrue((PACKAGE / "__init__.py").is_file())

    def test_sizes_and_signs(self):
        for name, text in files():
            with self.subTest(name):
                self.assertRegex(text, r"\A[ -~\n]*\Z")
                lines = text.split("\n")
                self.assertLessEqual(len(lines), 400)
                self.assertLessEqual(max(len(line) for line in lines), 120)

    def test_functions_are_short(self):
        for name, node in nodes():
            if isinstance(node, ast.FunctionDef):
                with self.subTest(file=name, function=node.name):
                    self.assertLessEqual(node.end_lineno - node.lineno + 1, 40)

    def test_barred_words(self):
        for name, text in files():
            with self.subTest(name):
                self.assertEqual([word for word in re.findall(r"\w+", text) if word in BARRED_WORDS], [])
                self.assertEqual([part for part in BARRED_PARTS if part in text], [])

    def test_imports_are_of_the_package(self):
        for name, node in nodes():
            self.assertNotIsInstance(node, ast.Import, name)
            if isinstance(node, ast.ImportFrom):
                with self.subTest(file=name, line=node.lineno):
                    self.assertEqual(node.level, 0)
                    self.assertTrue((node.module or "").startswith("partwares."))
                    self.assertNotIn("*", [alias.name for alias in node.names])

    def test_no_two_files_import_from_each_other(self):
        ahead = {name: set() for name, _ in files()}
        for name, node in nodes():
            if isinstance(node, ast.ImportFrom):
                ahead[name].add(node.module.split(".")[1] + ".py")
        while ahead:
            free = [name for name in ahead if not ahead[name] & set(ahead)]
            self.assertNotEqual(free, [], "a ring of imports")
            for name in free:
                del ahead[name]

    def test_builtins_are_those_that_are_told(self):
        for name, node in nodes():
            if isinstance(node, ast.Name) and hasattr(builtins, node.id):
                with self.subTest(file=name, line=node.lineno, word=node.id):
                    self.assertIn(node.id, BUILTINS)
                    self.assertIsInstance(node.ctx, ast.Load)
            if isinstance(node, ast.arg):
                self.assertFalse(hasattr(builtins, node.arg), (name, node.arg))

    def test_lists_in_the_place_of_generators_and_sorted_in_that_of_sort(self):
        for name, node in nodes():
            self.assertNotIsInstance(node, ast.GeneratorExp, name)
            self.assertFalse(isinstance(node, ast.Attribute) and node.attr == "sort", name)

    def test_names_are_plain(self):
        for name, node in nodes():
            if isinstance(node, (ast.Name, ast.arg, ast.Attribute, ast.FunctionDef, ast.ClassDef)):
                word = getattr(node, "id", None) or getattr(node, "arg", None) or getattr(node, "attr", None)
                word = word or node.name
                with self.subTest(file=name, word=word):
                    self.assertTrue(not word.startswith("_") or word in DOUBLE_UNDERSCORED)

    def test_no_name_is_a_method_and_an_attribute(self):
        methods, attributes, used = set(), set(), set()
        for _, node in nodes():
            if isinstance(node, ast.ClassDef):
                methods |= {part.name for part in node.body if isinstance(part, ast.FunctionDef)}
            if isinstance(node, ast.Attribute):
                used.add(node.attr)
                if isinstance(node.ctx, ast.Store):
                    attributes.add(node.attr)
        self.assertEqual(methods & attributes, set())
        built_in = {name for kind in (str, int, list, dict, set, bytes, tuple) for name in dir(kind)}
        self.assertEqual((methods | attributes) & built_in - set(DOUBLE_UNDERSCORED), set())
        self.assertEqual(used & {"format", "format_map", "mro", "register", "elements", "args"}, set())

    def test_no_name_in_a_function_is_that_of_an_import_or_a_class(self):
        for name, text in files():
            tree = ast.parse(text)
            taken = {alias.name for node in ast.walk(tree) if isinstance(node, ast.ImportFrom) for alias in node.names}
            taken |= {node.name for node in ast.walk(tree) if isinstance(node, (ast.ClassDef, ast.FunctionDef))
                      and node in tree.body}
            for node in ast.walk(tree):
                if isinstance(node, ast.arg):
                    self.assertNotIn(node.arg, taken, name)
                if isinstance(node, ast.Name) and isinstance(node.ctx, ast.Store):
                    self.assertNotIn(node.id, taken, name)

    def test_tables_hold_no_lists_and_are_only_read(self):
        for name, text in files():
            for row in ast.parse(text).body:
                if isinstance(row, ast.Assign):
                    with self.subTest(file=name, line=row.lineno):
                        self.assertIsInstance(row.targets[0], ast.Name)
                        inner = [node for node in ast.walk(row.value) if isinstance(node, (ast.List, ast.Dict))]
                        self.assertLessEqual(len(inner), 1)
                        self.assertFalse([node for node in ast.walk(row.value) if isinstance(node, ast.Call)])

    def test_no_floats_and_no_statements_that_are_barred(self):
        barred = (ast.Global, ast.AsyncFunctionDef, ast.Div, ast.Await, ast.AsyncFor, ast.AsyncWith)
        for name, node in nodes():
            self.assertNotIsInstance(node, barred, name)
            if isinstance(node, ast.Constant):
                self.assertNotIsInstance(node.value, (float, complex), name)
                self.assertFalse(isinstance(node.value, str) and "%" in node.value, name)


if __name__ == "__main__":
    unittest.main()
