import ast
import unittest
from pathlib import Path

from language import PACKAGE, bound_at_top, circle_among, faults_of_code, faults_of_file_name

FOLDER = Path(__file__).resolve().parent.parent / PACKAGE


def package_texts():
    return {path.name: path.read_bytes().decode("utf-8") for path in sorted(FOLDER.glob("*.py"))}


def module_name(file_name):
    return PACKAGE + "." + file_name[:-3]


def own_definitions(text):
    tree = ast.parse(text)
    tree.body = [node for node in tree.body if not isinstance(node, ast.ImportFrom)]
    return bound_at_top(tree)


class PackageTest(unittest.TestCase):
    def test_nothing_else_lies_in_it(self):
        for path in sorted(FOLDER.iterdir()):
            if path.name != "__pycache__":
                with self.subTest(path.name):
                    self.assertTrue(path.is_file())
                    self.assertEqual(faults_of_file_name(path.name), [])
        self.assertTrue((FOLDER / "__init__.py").is_file())

    def test_each_file_keeps_to_the_rules(self):
        texts = package_texts()
        defined = {module_name(name): own_definitions(text) for name, text in texts.items()}
        for name, text in texts.items():
            with self.subTest(name):
                self.assertEqual(faults_of_code(text, defined), [])

    def test_no_two_files_draw_from_one_another(self):
        draws = {}
        for name, text in package_texts().items():
            nodes = [node for node in ast.walk(ast.parse(text)) if isinstance(node, ast.ImportFrom)]
            draws[module_name(name)] = [node.module for node in nodes]
        self.assertEqual(draws[module_name("__init__.py")], [])
        self.assertIsNone(circle_among(draws))


class LookerTest(unittest.TestCase):
    """The looker is only worth something where it sees what is ruled out."""

    OUTSIDE = (
        ("L2", "from math import gcd\n"),
        ("L2", "from .errors import NoNumber\n"),
        ("L16", "from neverbelow.errors import NOUGHT\n"),
        ("L6", "import sys\n"),
        ("L3", "A = len([])\n"),
        ("L3", "print(1)\n"),
        ("L15", "A = 1\nA = 2\n"),
        ("L4", "def f(*a):\n    return a\n"),
        ("L4", "def f(a=[g()]):\n    return a\n"),
        ("L21", "def f(a: int):\n    return a\n"),
        ("L10", "def f(a):\n" + "    a = a + 1\n" * 40),
        ("L10", "A = 1" + " " * 116 + "\n"),
        ("L5", "class A:\n    a = 1\n"),
        ("L6", "def f(a):\n    assert a\n"),
        ("L6", "def f(a):\n    b = c = a\n    return b\n"),
        ("L6", "def f(a):\n    for b in a:\n        pass\n    else:\n        pass\n"),
        ("L7", "def f(a):\n    return a / 2\n"),
        ("L7", "def f(a):\n    return 0.5\n"),
        ("L7", "def f(a):\n    return sum(b for b in a)\n"),
        ("L7", "def f(a):\n    return g(*a)\n"),
        ("L8", "def f(a):\n    return hash(a)\n"),
        ("L8", "def f(a):\n    return chr(a)\n"),
        ("L12", "def f(a):\n    for _ in a:\n        pass\n"),
        ("L14", "A = '\u00e9'\n"),
        ("L14", "def f(a):\n\treturn a\n"),
        ("L15", "def f(sum):\n    return sum\n"),
        ("L15", "from neverbelow.errors import NoNumber\ndef f(NoNumber):\n    return 1\n"),
        ("L17", "# a remark on a type\n"),
        ("L17", "def f(a):\n    return a.mro\n"),
        ("L19", "def f(a):\n    try:\n        g(a)\n    except Exception:\n        pass\n"),
        ("L19", "def f(a):\n    raise ValueError\n"),
        ("L20", "def f(a):\n    return a is 1\n"),
        ("L22", "def f(a):\n    return int(a, base=3)\n"),
        ("L23", "def f(a):\n    b = zip(a, a)\n    return b\n"),
        ("L24", "def f(a):\n    b = set(a)\n    return b\n"),
        ("L25", "def f(a):\n    return a.swapcase()\n"),
        ("L27", "def f(a):\n    return 2 ** a\n"),
        ("L27", "A = '%'\n"),
    )

    def test_sees_what_is_outside(self):
        defined = {"neverbelow.errors": ["NoNumber"]}
        for rule, text in self.OUTSIDE:
            with self.subTest(text):
                self.assertIn(rule, [fault[0] for fault in faults_of_code(text, defined)])

    def test_file_names(self):
        for name in ("Numbers.py", "notes.txt", "tests.py", "test_a.py", "range.py", "typing.py"):
            with self.subTest(name):
                self.assertNotEqual(faults_of_file_name(name), [])
        self.assertEqual(faults_of_file_name("numbers.py"), [])

    def test_circles(self):
        self.assertEqual(circle_among({"a": ["b"], "b": ["c"], "c": ["a"]}), "a")
        self.assertIsNone(circle_among({"a": ["b", "c"], "b": ["c"], "c": []}))


if __name__ == "__main__":
    unittest.main()
