"""The limits of LANGUAGE.md that can be counted, over all files of the package."""

import ast
import os
import re
import unittest
import warnings

import strayfiles

PACKAGE = os.path.dirname(os.path.abspath(strayfiles.__file__))

MOST_FUNCTION_LINES = 40
MOST_FILE_LINES = 399
MOST_LINE_CHARACTERS = 120
MOST_FILES = 100
MOST_STRING_CHARACTERS = 2000000

FUNCTIONS = (ast.FunctionDef, ast.AsyncFunctionDef, ast.Lambda)


def package_paths():
    """All files of the package, without what Python itself puts beside them when it runs."""
    found = []
    for folder, folders, names in os.walk(PACKAGE):
        folders[:] = [name for name in folders if name != "__pycache__"]
        found += [os.path.join(folder, name) for name in names]
    return sorted(found)


def read_bytes(path):
    with open(path, "rb") as stream:
        return stream.read()


def long_functions(text, most=MOST_FUNCTION_LINES):
    """The numbers of the lines at which functions with too many lines begin."""
    wrong = []
    for node in ast.walk(ast.parse(text)):
        if isinstance(node, FUNCTIONS):
            decorators = getattr(node, "decorator_list", [])
            first = min([node.lineno] + [part.lineno for part in decorators])
            if node.end_lineno - first + 1 > most:
                wrong.append(first)
    return sorted(wrong)


def long_lines(text):
    """The numbers, from 1, of the lines that are too long."""
    return [at for at, line in enumerate(text.split("\n"), 1) if len(line) > MOST_LINE_CHARACTERS]


def wrong_characters(data):
    """The bytes that are neither a line feed nor from the space to the tilde."""
    return sorted({byte for byte in data if byte != 10 and not 32 <= byte <= 126})


def imported(text):
    """The imports of a file as pairs: the module, or '' for another form than from .. import .., and its level."""
    pairs = []
    for node in ast.walk(ast.parse(text)):
        if isinstance(node, ast.ImportFrom):
            pairs.append((node.module or "", node.level))
        if isinstance(node, ast.Import):
            pairs.append(("", 0))
    return pairs


def package_files():
    """Pairs of the name within the package and the bytes, one for each file."""
    return [(os.path.relpath(path, PACKAGE), read_bytes(path)) for path in package_paths()]


class TestLimits(unittest.TestCase):
    def test_the_files_are_found(self):
        names = [name for name, _ in package_files()]
        for name in ("__init__.py", "errors.py", "times.py", "statements.py"):
            self.assertIn(name, names)

    def test_l1_and_l14_files(self):
        paths = package_paths()
        self.assertLessEqual(len(paths), MOST_FILES)
        for path in paths:
            self.assertRegex(os.path.basename(path), r"\A[a-z0-9_]+\.py\Z")
            self.assertIn("__init__.py", os.listdir(os.path.dirname(path)))

    def test_l10_lines_of_a_function(self):
        for name, data in package_files():
            with self.subTest(name):
                self.assertEqual(long_functions(data.decode()), [])

    def test_l10_lines_of_a_file(self):
        for name, data in package_files():
            with self.subTest(name):
                self.assertLessEqual(len(data.decode().splitlines()), MOST_FILE_LINES)

    def test_l10_length_of_a_line(self):
        for name, data in package_files():
            with self.subTest(name):
                self.assertEqual(long_lines(data.decode()), [])

    def test_l14_characters(self):
        for name, data in package_files():
            with self.subTest(name):
                self.assertEqual(wrong_characters(data), [])

    def test_l14_characters_of_all_strings(self):
        total = 0
        for _, data in package_files():
            for node in ast.walk(ast.parse(data)):
                if isinstance(node, ast.Constant) and isinstance(node.value, (str, bytes)):
                    total += len(node.value)
        self.assertLessEqual(total, MOST_STRING_CHARACTERS)

    def test_l2_imports(self):
        library = ("heapq", "math", "itertools", "__future__")
        for name, data in package_files():
            if name == "__main__.py":
                continue
            with self.subTest(name):
                for module, level in imported(data.decode()):
                    self.assertEqual(level, 0)
                    self.assertTrue(module in library or module.startswith("strayfiles."), module)

    def test_l27_no_warnings_and_no_percent_signs_in_strings(self):
        for name, data in package_files():
            with self.subTest(name):
                with warnings.catch_warnings():
                    warnings.simplefilter("error")
                    compile(data, name, "exec")
                for node in ast.walk(ast.parse(data)):
                    if isinstance(node, ast.Constant) and isinstance(node.value, str):
                        self.assertNotIn("%", node.value)

    def test_l12_names(self):
        for name, data in package_files():
            with self.subTest(name):
                self.assertIsNone(re.search(rb"\b_wall\b|_WallAttr", data))


class TestTheCounting(unittest.TestCase):
    """The counting itself, or the tests above would say nothing."""

    def test_functions(self):
        body = "    pass\n"
        self.assertEqual(long_functions("def f():\n" + body * 39), [])
        self.assertEqual(long_functions("def f():\n" + body * 40), [1])
        self.assertEqual(long_functions("x = 1\nclass C:\n    def f(self):\n" + "        pass\n" * 40), [3])
        self.assertEqual(long_functions("class C:\n" + "    def f(self):\n        pass\n" * 40), [])

    def test_lines(self):
        self.assertEqual(long_lines("#" * 120 + "\n"), [])
        self.assertEqual(long_lines("\n" + "#" * 121 + "\n"), [2])

    def test_characters(self):
        self.assertEqual(wrong_characters(b" ~\n"), [])
        self.assertEqual(wrong_characters(b"a\tb\r\n\x7f\xc3\xa9"), [9, 13, 127, 169, 195])

    def test_imports(self):
        self.assertEqual(imported("import os\nfrom . import x\nfrom a.b import c\n"),
                         [("", 0), ("", 1), ("a.b", 0)])


if __name__ == "__main__":
    unittest.main()
