"""That the files of the package are as the language rules and the interface ask for."""

import ast
import builtins
import importlib
import inspect
import pathlib
import re
import unittest

PACKAGE = pathlib.Path(__file__).resolve().parent.parent / "hidelater"

# The functions and classes of the interface, with their arguments, by file; errors.py has its own test.
INTERFACE = {
    "casks": {
        "look_sizes": ["sizes"],
        "look_counts": ["sizes", "counts"],
        "look_stand": ["sizes", "stand"],
        "counts_of": ["sizes", "stand"],
        "stand_of": ["sizes", "counts"],
        "room": ["sizes", "counts"],
        "hidden": ["stand", "many"],
        "lesser": ["one", "other"],
        "greater": ["one", "other"],
        "within": ["one", "other"],
        "apart": ["one", "other"],
    },
    "deeds": {
        "look_deed": ["sizes", "deed"],
        "look_row": ["sizes", "deeds"],
        "has_tap": ["sizes", "deeds"],
    },
}

BARRED_WORDS = (
    "type typing typing_extensions enum Enum IntEnum StrEnum Flag IntFlag Generic Protocol ABC ABCMeta namedtuple "
    "NamedTuple TypedDict TYPE_CHECKING abstractmethod law register mro elements open input"
).split()


def package_files():
    return sorted(PACKAGE.glob("*.py"))


def parsed(file):
    return ast.parse(file.read_text(encoding="ascii"))


class Files(unittest.TestCase):

    def test_the_folder_has_python_files_only(self):
        names = [file.name for file in PACKAGE.iterdir() if file.name != "__pycache__"]
        self.assertIn("__init__.py", names)
        self.assertEqual([name for name in names if not re.fullmatch(r"[a-z0-9_]+\.py", name)], [])

    def test_signs_and_lengths(self):
        for file in package_files():
            text = file.read_text(encoding="utf-8")
            with self.subTest(file=file.name):
                self.assertIsNone(re.search(r"[^ -~\n]", text))
                lines = text.split("\n")
                self.assertLessEqual(len(lines), 399)
                self.assertLessEqual(max(len(line) for line in lines), 120)

    def test_barred_words(self):
        for file in package_files():
            words = set(re.findall(r"\w+", file.read_text(encoding="utf-8")))
            self.assertEqual(words & set(BARRED_WORDS), set(), file.name)

    def test_functions_are_small(self):
        for file in package_files():
            for node in ast.walk(parsed(file)):
                if isinstance(node, ast.FunctionDef):
                    self.assertLessEqual(node.end_lineno - node.lineno + 1, 40, (file.name, node.name))

    def test_imports_name_the_file_that_defines(self):
        for file in package_files():
            for node in ast.walk(parsed(file)):
                self.assertNotIsInstance(node, ast.Import)
                if isinstance(node, ast.ImportFrom):
                    self.assertTrue(node.module.startswith("hidelater."), file.name)
                    source = PACKAGE / (node.module.split(".")[1] + ".py")
                    self.assertLessEqual({alias.name for alias in node.names}, set(bound_names(source)))

    def test_names_are_bound_once_and_are_no_builtins(self):
        for file in package_files():
            names = bound_names(file)
            self.assertEqual(len(names), len(set(names)), file.name)
            self.assertEqual([name for name in names if hasattr(builtins, name)], [])


def bound_names(file):
    """The names that a file defines at module level, without its imports."""
    names = []
    for node in parsed(file).body:
        if isinstance(node, (ast.FunctionDef, ast.ClassDef)):
            names.append(node.name)
        elif isinstance(node, ast.Assign):
            names.extend(target.id for target in node.targets)
    return names


class Interface(unittest.TestCase):

    def test_defined_in_its_file_with_its_arguments(self):
        for name, functions in INTERFACE.items():
            module = importlib.import_module("hidelater." + name)
            defined = [node.name for node in parsed(PACKAGE / (name + ".py")).body if isinstance(node, ast.FunctionDef)]
            for function, arguments in functions.items():
                with self.subTest(file=name, function=function):
                    self.assertIn(function, defined)
                    parameters = inspect.signature(getattr(module, function)).parameters
                    self.assertEqual(list(parameters), arguments)


if __name__ == "__main__":
    unittest.main()
