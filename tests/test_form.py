"""The interface as the document lists it, and the rules of form that are easily looked at."""

import ast
import builtins
import pathlib
import re
import unittest

ROOT = pathlib.Path(__file__).resolve().parent.parent
PACKAGE = ROOT / "spanshelf"

INTERFACE = {
    "spans.py": {"length_of": ["span"], "meet": ["one", "other"], "lies_within": ["one", "other"]},
    "covers.py": {
        "cover_of": ["spans"],
        "both": ["one", "other"],
        "either": ["one", "other"],
        "less": ["one", "other"],
        "held": ["cover"],
    },
    "depths.py": {"depth_at": ["spans", "place"], "profile": ["spans"], "deepest": ["spans"]},
    "apart.py": {"most_apart": ["spans"], "shows_apart": ["spans", "chosen", "pins"]},
    "rows.py": {"rows_of": ["spans"], "shows_rows": ["spans", "rows", "place"]},
    "heaviest.py": {
        "heaviest": ["spans", "weights", "k"],
        "shows_heaviest": ["spans", "weights", "k", "chosen", "prices"],
    },
    "covering.py": {
        "cheapest": ["span", "spans", "costs"],
        "shows_cheapest": ["span", "spans", "costs", "chosen", "rents"],
    },
    "giving.py": {
        "giving": ["spans"],
        "shows_giving": ["spans", "given", "windows"],
        "heaviest_giving": ["spans", "weights"],
    },
    "nests.py": {
        "nest": ["spans"],
        "loose": ["spans"],
        "shows_nest": ["spans", "told"],
        "shows_loose": ["spans", "told"],
    },
    "two.py": {"clashes": ["one", "other"], "shared": ["one", "other"], "spare": ["one", "other"]},
    "texts.py": {
        "show_span": ["span"],
        "show_cover": ["cover"],
        "show_shelf": ["shelf"],
        "read_span": ["text"],
        "read_cover": ["text"],
        "read_shelf": ["text"],
    },
}

CLASSES = {
    "shelf.py": {
        "Shelf": {
            "put": ["name", "span", "weight"],
            "out": ["name"],
            "move": ["name", "by"],
            "clip": ["name", "span"],
            "weigh": ["name", "weight"],
            "pour": ["shelf"],
            "back": [],
            "again": [],
            "names": [],
            "span": ["name"],
            "weight": ["name"],
            "holders": ["place"],
            "meeting": ["span"],
            "within": ["span"],
            "depth": ["place"],
            "deepest": [],
            "profile": [],
            "cover": [],
            "room": ["place", "length"],
            "apart": [],
            "heaviest": ["k"],
            "twin": [],
        },
    },
    "desk.py": {"Desk": {"say": ["line"]}},
}

BUILTINS = set(
    "len range enumerate zip min max sum abs sorted reversed int str bool bytes list tuple dict set frozenset isinstance"
    " ord repr any all divmod iter next super property staticmethod classmethod object NotImplemented Exception ValueError"
    " TypeError KeyError IndexError LookupError ZeroDivisionError ArithmeticError OverflowError RuntimeError"
    " NotImplementedError AttributeError StopIteration".split()
)

METHODS = set(
    "append clear copy count endswith extend find get index insert isalnum isalpha isdigit islower isspace isupper items"
    " join keys ljust lower lstrip partition pop remove replace reverse rfind rjust rpartition rsplit rstrip setdefault"
    " split splitlines startswith strip update upper values zfill bit_length add discard sort".split()
)

BARRED_WORDS = re.compile(
    r"\b(type|typing|typing_extensions|enum|Enum|IntEnum|StrEnum|Flag|IntFlag|Generic|Protocol|ABC|ABCMeta"
    r"|namedtuple|NamedTuple|TypedDict|TYPE_CHECKING|abstractmethod)\b|dataclass|overload|contextmanager"
)


def files():
    return sorted(PACKAGE.rglob("*.py"))


def arguments_of(rows):
    return {row.name: [arg.arg for arg in row.args.args] for row in rows if isinstance(row, ast.FunctionDef)}


def trees():
    return [(path, ast.parse(path.read_text(encoding="utf-8"))) for path in files()]


class InterfaceTest(unittest.TestCase):
    def test_each_function_is_defined_in_its_file_with_its_arguments(self):
        for name, functions in INTERFACE.items():
            tree = ast.parse((PACKAGE / name).read_text(encoding="utf-8"))
            defined = arguments_of(tree.body)
            for function, arguments in functions.items():
                self.assertEqual(defined.get(function), arguments, function)

    def test_each_class_is_defined_in_its_file_with_its_methods(self):
        for name, classes in CLASSES.items():
            tree = ast.parse((PACKAGE / name).read_text(encoding="utf-8"))
            defined = {row.name: row for row in tree.body if isinstance(row, ast.ClassDef)}
            for one, methods in classes.items():
                found = arguments_of(defined[one].body)
                self.assertEqual(found["__init__"], ["self"], one)
                for method, arguments in methods.items():
                    self.assertEqual(found.get(method), ["self"] + arguments, method)


class FormTest(unittest.TestCase):
    def test_the_folder_has_python_files_with_plain_names_only(self):
        for path in PACKAGE.rglob("*"):
            if path.name != "__pycache__" and path.parent.name != "__pycache__":
                self.assertRegex(path.name, r"^[a-z0-9_]+\.py$")

    def test_sizes_and_signs(self):
        for path in files():
            text = path.read_bytes().decode("utf-8")
            self.assertLessEqual(len(text.splitlines()), 399, path)
            self.assertRegex(text, r"\A[ -~\n]*\Z", path)
            for line in text.splitlines():
                self.assertLessEqual(len(line), 120, path)

    def test_functions_are_short(self):
        for path, tree in trees():
            for row in ast.walk(tree):
                if isinstance(row, ast.FunctionDef):
                    self.assertLessEqual(row.end_lineno - row.lineno + 1, 40, (path, row.name))

    def test_no_barred_word(self):
        for path in files():
            self.assertIsNone(BARRED_WORDS.search(path.read_text(encoding="utf-8")), path)

    def test_imports_come_from_the_package_by_full_names(self):
        for path, tree in trees():
            for row in ast.walk(tree):
                self.assertNotIsInstance(row, ast.Import, path)
                if isinstance(row, ast.ImportFrom):
                    self.assertEqual(row.level, 0, path)
                    self.assertTrue(row.module.startswith("spanshelf."), path)

    def test_no_two_files_import_from_each_other(self):
        above = {path.stem: {row.module.split(".")[1] for row in tree.body if isinstance(row, ast.ImportFrom)}
                 for path, tree in trees()}
        while above:
            free = [name for name, needed in above.items() if not needed & set(above)]
            self.assertTrue(free, above)
            for name in free:
                del above[name]

    def test_no_name_has_the_name_of_a_builtin_or_of_an_import(self):
        for path, tree in trees():
            imported = {name.name for row in tree.body if isinstance(row, ast.ImportFrom) for name in row.names}
            for row in ast.walk(tree):
                own = []
                if isinstance(row, ast.Name) and not isinstance(row.ctx, ast.Load):
                    own = [row.id]
                elif isinstance(row, ast.arg):
                    own = [row.arg]
                elif isinstance(row, ast.FunctionDef) and row.name != "__init__":
                    own = [row.name]
                for name in own:
                    self.assertFalse(hasattr(builtins, name) or name in imported, (path, name))

    def test_only_the_builtins_and_methods_of_the_rules(self):
        own = {row.name for path, tree in trees() for row in ast.walk(tree) if isinstance(row, ast.FunctionDef)}
        for path, tree in trees():
            for row in ast.walk(tree):
                if isinstance(row, ast.Name) and hasattr(builtins, row.id):
                    self.assertIn(row.id, BUILTINS, path)
                if isinstance(row, ast.Call) and isinstance(row.func, ast.Attribute):
                    self.assertIn(row.func.attr, METHODS | own, path)

    def test_no_name_is_a_method_of_one_class_and_an_attribute_of_another(self):
        methods, assigned, read = set(), set(), set()
        for path, tree in trees():
            called = {id(row.func) for row in ast.walk(tree) if isinstance(row, ast.Call)}
            for row in ast.walk(tree):
                if isinstance(row, ast.ClassDef):
                    methods |= set(arguments_of(row.body))
                elif isinstance(row, ast.Attribute) and isinstance(row.ctx, ast.Store):
                    assigned.add(row.attr)
                elif isinstance(row, ast.Attribute) and id(row) not in called:
                    read.add(row.attr)
        self.assertEqual(methods & assigned, set())
        self.assertEqual(read - assigned, set())

    def test_what_stands_at_module_level_is_read_by_an_index_or_by_in_only(self):
        for path, tree in trees():
            tables = {row.targets[0].id for row in tree.body
                      if isinstance(row, ast.Assign) and isinstance(row.value, (ast.List, ast.Dict))}
            known = {id(row.value) for row in ast.walk(tree) if isinstance(row, ast.Subscript)}
            known |= {id(one) for row in ast.walk(tree) if isinstance(row, ast.Compare) for one in row.comparators}
            for row in ast.walk(tree):
                if isinstance(row, ast.Name) and row.id in tables and isinstance(row.ctx, ast.Load):
                    self.assertIn(id(row), known, (path, row.id))

    def test_no_float_and_no_division_by_a_slash(self):
        for path, tree in trees():
            for row in ast.walk(tree):
                self.assertNotIsInstance(row, ast.Div, path)
                if isinstance(row, ast.Constant):
                    self.assertNotIsInstance(row.value, float, path)

    def test_no_name_begins_with_an_underscore(self):
        for path, tree in trees():
            for row in ast.walk(tree):
                if isinstance(row, ast.Name):
                    self.assertFalse(row.id.startswith("_"), (path, row.id))


if __name__ == "__main__":
    unittest.main()
