"""The interface as the document lists it, and the rules of form that are easily looked at."""

import ast
import pathlib
import re
import unittest

ROOT = pathlib.Path(__file__).resolve().parent.parent
PACKAGE = ROOT / "spanshelf"

INTERFACE = {
    "spans.py": {"length_of": ["span"], "meet": ["one", "other"], "lies_within": ["one", "other"]},
    "covers.py": {
        "cover_of": ["spans"],
        "both": ["one", "other"],
        "either": ["one", "other"],
        "less": ["one", "other"],
        "held": ["cover"],
    },
}

BARRED_WORDS = re.compile(
    r"\b(type|typing|typing_extensions|enum|Enum|IntEnum|StrEnum|Flag|IntFlag|Generic|Protocol|ABC|ABCMeta"
    r"|namedtuple|NamedTuple|TypedDict|TYPE_CHECKING|abstractmethod)\b|dataclass|overload|contextmanager"
)


def files():
    return sorted(PACKAGE.rglob("*.py"))


def trees():
    return [(path, ast.parse(path.read_text(encoding="utf-8"))) for path in files()]


class InterfaceTest(unittest.TestCase):
    def test_each_function_is_defined_in_its_file_with_its_arguments(self):
        for name, functions in INTERFACE.items():
            tree = ast.parse((PACKAGE / name).read_text(encoding="utf-8"))
            defined = {row.name: [arg.arg for arg in row.args.args]
                       for row in tree.body if isinstance(row, ast.FunctionDef)}
            for function, arguments in functions.items():
                self.assertEqual(defined.get(function), arguments, function)


class FormTest(unittest.TestCase):
    def test_the_folder_has_python_files_with_plain_names_only(self):
        for path in PACKAGE.rglob("*"):
            if path.name != "__pycache__" and path.parent.name != "__pycache__":
                self.assertRegex(path.name, r"^[a-z0-9_]+\.py$")

    def test_sizes_and_signs(self):
        for path in files():
            text = path.read_bytes().decode("utf-8")
            self.assertLessEqual(len(text.splitlines()), 399, path)
            self.assertRegex(text, r"\A[ -~\n]*\Z", path)
            for line in text.splitlines():
                self.assertLessEqual(len(line), 120, path)

    def test_functions_are_short(self):
        for path, tree in trees():
            for row in ast.walk(tree):
                if isinstance(row, ast.FunctionDef):
                    self.assertLessEqual(row.end_lineno - row.lineno + 1, 40, (path, row.name))

    def test_no_barred_word(self):
        for path in files():
            self.assertIsNone(BARRED_WORDS.search(path.read_text(encoding="utf-8")), path)

    def test_imports_come_from_the_package_by_full_names(self):
        for path, tree in trees():
            for row in ast.walk(tree):
                self.assertNotIsInstance(row, ast.Import, path)
                if isinstance(row, ast.ImportFrom):
                    self.assertEqual(row.level, 0, path)
                    self.assertTrue(row.module.startswith("spanshelf."), path)

    def test_no_float_and_no_division_by_a_slash(self):
        for path, tree in trees():
            for row in ast.walk(tree):
                self.assertNotIsInstance(row, ast.Div, path)
                if isinstance(row, ast.Constant):
                    self.assertNotIsInstance(row.value, float, path)

    def test_no_name_begins_with_an_underscore(self):
        for path, tree in trees():
            for row in ast.walk(tree):
                if isinstance(row, ast.Name):
                    self.assertFalse(row.id.startswith("_"), (path, row.id))


if __name__ == "__main__":
    unittest.main()
