"""That the files of the package are as the language rules and the interface ask for."""

import ast
import builtins
import importlib
import inspect
import pathlib
import re
import unittest

PACKAGE = pathlib.Path(__file__).resolve().parent.parent / "hidelater"

# The functions of the interface, with their arguments as they are written, by file; errors.py has its own test.
INTERFACE = {
    "casks": {
        "look_sizes": ["sizes"],
        "look_counts": ["sizes", "counts"],
        "look_stand": ["sizes", "stand"],
        "counts_of": ["sizes", "stand"],
        "stand_of": ["sizes", "counts"],
        "room": ["sizes", "counts"],
        "hidden": ["stand", "many"],
        "lesser": ["one", "other"],
        "greater": ["one", "other"],
        "within": ["one", "other"],
        "apart": ["one", "other"],
    },
    "deeds": {
        "look_deed": ["sizes", "deed"],
        "look_row": ["sizes", "deeds"],
        "has_tap": ["sizes", "deeds"],
    },
    "ranks": {
        "done": ["sizes", "stand", "deed"],
        "done_all": ["sizes", "stand", "deeds"],
        "path": ["sizes", "stand", "deeds", "rank"],
    },
    "amounts": {
        "poured": ["sizes", "counts", "deed"],
        "poured_all": ["sizes", "counts", "deeds"],
        "by_counts": ["sizes", "stand", "deeds"],
    },
    "tables": {
        "one_more": ["sizes", "counts", "deeds"],
        "joined": ["first", "second"],
    },
    "far": {
        "behind": ["sizes", "stand", "deeds", "times"],
        "behind_counts": ["sizes", "counts", "deeds", "times"],
        "ring": ["sizes", "stand", "deeds"],
        "ring_of_counts": ["sizes", "counts", "deeds"],
        "turns": ["sizes", "counts", "deeds"],
    },
    "kin": {
        "ends": ["sizes", "counts", "deeds"],
        "kin": ["sizes", "counts", "deeds"],
        "kin_holds": ["sizes", "counts", "deeds", "paper"],
    },
    "meets": {
        "meet": ["sizes", "one", "other", "deeds"],
        "apart_at_last": ["sizes", "one", "other", "deeds"],
    },
    "asks": {
        "when": ["sizes", "counts", "deeds", "*", "cask", "least=1"],
        "first_time": ["sizes", "counts", "deeds", "*", "cask", "least=1"],
        "never": ["sizes", "counts", "deeds", "*", "cask", "least=1"],
        "never_holds": ["sizes", "counts", "deeds", "paper", "*", "cask", "least=1"],
    },
    "texts": {
        "step_text": ["step"],
        "read_step": ["text"],
    },
    "pages": {
        "page": ["loft"],
        "read_page": ["text"],
    },
}

# The classes of the interface by file, each with its methods and their arguments behind the object itself.
CLASSES = {
    "rounds": {
        "Book": {
            "__init__": ["sizes"],
            "write": ["name", "steps"],
            "drop": ["name"],
            "steps": ["name"],
            "flat": ["name"],
            "callers": ["name"],
            "names": [],
            "sizes": [],
            "twin": [],
            "__len__": [],
            "__eq__": ["other"],
            "__repr__": [],
        },
    },
    "loft": {
        "Loft": {
            "__init__": ["sizes", "*", "stand=()"],
            "do": ["deed"],
            "all_of": ["deeds"],
            "run": ["name", "*", "times=1"],
            "write": ["name", "steps"],
            "drop": ["name"],
            "undo": [],
            "redo": [],
            "steps": [],
            "left": [],
            "sizes": [],
            "stand": [],
            "counts": [],
            "rounds": [],
            "drops": [],
            "where": ["rank"],
            "ranks": ["cask"],
            "gone": [],
            "path": ["rank"],
            "one_more": [],
            "ring": ["name"],
            "apart": ["other"],
            "hidden": ["many"],
            "twin": [],
            "__len__": [],
            "__eq__": ["other"],
            "__str__": [],
            "__repr__": [],
        },
    },
}

# The numbers of the interface by file.
BOUNDS = {
    "casks": {"MOST_CASKS": 6, "MOST_SIZE": 40, "MOST_DROPS": 60, "GONE": -1},
    "deeds": {"GREAT": 10 ** 30, "MOST_ROW": 400},
    "rounds": {"MOST_ROUNDS": 12, "MOST_FLAT": 200, "MOST_CALLS": 9},
    "far": {"FAR": 10 ** 300},
}

BARRED_WORDS = (
    "type typing typing_extensions enum Enum IntEnum StrEnum Flag IntFlag Generic Protocol ABC ABCMeta namedtuple "
    "NamedTuple TypedDict TYPE_CHECKING abstractmethod law register mro elements open input"
).split()


def package_files():
    return sorted(PACKAGE.glob("*.py"))


def parsed(file):
    return ast.parse(file.read_text(encoding="ascii"))


class Files(unittest.TestCase):

    def test_the_folder_has_python_files_only(self):
        names = [file.name for file in PACKAGE.iterdir() if file.name != "__pycache__"]
        self.assertIn("__init__.py", names)
        self.assertEqual([name for name in names if not re.fullmatch(r"[a-z0-9_]+\.py", name)], [])

    def test_signs_and_lengths(self):
        for file in package_files():
            text = file.read_text(encoding="utf-8")
            with self.subTest(file=file.name):
                self.assertIsNone(re.search(r"[^ -~\n]", text))
                lines = text.split("\n")
                self.assertLessEqual(len(lines), 399)
                self.assertLessEqual(max(len(line) for line in lines), 120)

    def test_barred_words(self):
        for file in package_files():
            words = set(re.findall(r"\w+", file.read_text(encoding="utf-8")))
            self.assertEqual(words & set(BARRED_WORDS), set(), file.name)

    def test_functions_are_small(self):
        for file in package_files():
            for node in ast.walk(parsed(file)):
                if isinstance(node, ast.FunctionDef):
                    self.assertLessEqual(node.end_lineno - node.lineno + 1, 40, (file.name, node.name))

    def test_imports_name_the_file_that_defines(self):
        for file in package_files():
            for node in ast.walk(parsed(file)):
                self.assertNotIsInstance(node, ast.Import)
                if isinstance(node, ast.ImportFrom):
                    self.assertTrue(node.module.startswith("hidelater."), file.name)
                    source = PACKAGE / (node.module.split(".")[1] + ".py")
                    self.assertLessEqual({alias.name for alias in node.names}, set(bound_names(source)))

    def test_names_are_bound_once_and_are_no_builtins(self):
        for file in package_files():
            names = bound_names(file)
            self.assertEqual(len(names), len(set(names)), file.name)
            self.assertEqual([name for name in names if hasattr(builtins, name)], [])

    def test_no_name_is_a_method_and_an_attribute(self):
        methods, attributes = set(), set()
        for file in package_files():
            for node in ast.walk(parsed(file)):
                if isinstance(node, ast.ClassDef):
                    methods.update(part.name for part in node.body if isinstance(part, ast.FunctionDef))
                if isinstance(node, ast.Attribute) and isinstance(node.ctx, ast.Store):
                    attributes.add(node.attr)
        self.assertIn("write", methods)
        self.assertIn("word", attributes)
        self.assertEqual(methods & attributes, set())

    def test_local_names_are_no_builtins_imports_or_classes(self):
        for file in package_files():
            barred = set(dir(builtins)) | outer_names(file)
            for node in ast.walk(parsed(file)):
                if isinstance(node, ast.FunctionDef):
                    self.assertEqual(local_names(node) & barred, set(), (file.name, node.name))

    def test_no_generator_expressions_and_no_sets(self):
        for file in package_files():
            for node in ast.walk(parsed(file)):
                self.assertNotIsInstance(node, (ast.GeneratorExp, ast.Set, ast.SetComp, ast.Div), file.name)

    def test_no_two_files_import_from_each_other(self):
        needs = {file.stem: imported_files(file) for file in package_files()}
        left = dict(needs)
        while left:
            free = [name for name in left if not left[name] & set(left)]
            self.assertNotEqual(free, [], left)
            for name in free:
                del left[name]


def outer_names(file):
    """The names of the classes and imports of a file."""
    names = set()
    for node in parsed(file).body:
        if isinstance(node, ast.ClassDef):
            names.add(node.name)
        elif isinstance(node, ast.ImportFrom):
            names.update(alias.asname or alias.name for alias in node.names)
    return names


def local_names(function):
    """The parameters and local variables of a function."""
    names = {part.arg for part in ast.walk(function) if isinstance(part, ast.arg)}
    stored = [part for part in ast.walk(function) if isinstance(part, ast.Name) and isinstance(part.ctx, ast.Store)]
    names.update(part.id for part in stored)
    return names


def imported_files(file):
    """The files of the package from which a file imports."""
    return {node.module.split(".")[1] for node in ast.walk(parsed(file)) if isinstance(node, ast.ImportFrom)}


def bound_names(file):
    """The names that a file defines at module level, without its imports."""
    names = []
    for node in parsed(file).body:
        if isinstance(node, (ast.FunctionDef, ast.ClassDef)):
            names.append(node.name)
        elif isinstance(node, ast.Assign):
            names.extend(target.id for target in node.targets)
    return names


def arguments_of(function):
    """The arguments of a function as they are written."""
    text = str(inspect.signature(function))[1:-1]
    return text.split(", ") if text else []


class Interface(unittest.TestCase):

    def test_defined_in_its_file_with_its_arguments(self):
        for name, functions in INTERFACE.items():
            module = importlib.import_module("hidelater." + name)
            defined = [node.name for node in parsed(PACKAGE / (name + ".py")).body if isinstance(node, ast.FunctionDef)]
            for function, arguments in functions.items():
                with self.subTest(file=name, function=function):
                    self.assertIn(function, defined)
                    self.assertEqual(arguments_of(getattr(module, function)), arguments)

    def test_each_method_is_defined_in_its_class_itself(self):
        for name, classes in CLASSES.items():
            module = importlib.import_module("hidelater." + name)
            for each, methods in classes.items():
                kind = getattr(module, each)
                self.assertEqual(kind.__module__, "hidelater." + name)
                for method, arguments in methods.items():
                    with self.subTest(kind=each, method=method):
                        self.assertIn(method, vars(kind))
                        self.assertEqual(arguments_of(vars(kind)[method]), ["self"] + arguments)

    def test_bounds(self):
        for name, bounds in BOUNDS.items():
            module = importlib.import_module("hidelater." + name)
            for bound, worth in bounds.items():
                self.assertEqual(getattr(module, bound), worth)


if __name__ == "__main__":
    unittest.main()
