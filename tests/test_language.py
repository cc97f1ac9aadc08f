import ast
import re
import unittest
from pathlib import Path

from tests.language_rules import PACKAGE, faults, own_attributes, package_faults

FOLDER = Path(__file__).resolve().parent.parent / PACKAGE

# Each source breaks the rule beside it.
BROKEN = [
    ("import sys\n", "L6 L7"),
    ("from math import gcd\n", "L2 L16"),
    ("from . import errors\n", "L2"),
    ("print(1)\n", "L3"),
    ("def f(*xs):\n    return xs\n", "L4"),
    ("class A:\n    n = 1\n", "L5"),
    ("class A:\n    'words'\n", "L5"),
    ("def f(a):\n    b = c = a\n    return b + c\n", "L6"),
    ("def f(a):\n    assert a\n", "L6 L7"),
    ("def f(a):\n    return a / 2\n", "L6 L7"),
    ("def f(a):\n    return 0.5\n", "L7"),
    ("def f(a):\n    return f'{a:3}'\n", "L7"),
    ("def f(a):\n    return [x for y in a for x in y]\n", "L7"),
    ("def f(a):\n    return map(f, a)\n", "L8 L17"),
    ("def f(a):\n    return chr(a)\n", "L8 L17"),
    ("def f(len):\n    return 1\n", "L8 L15"),
    ("def f(a):\n" + "    a = a + 1\n" * 40, "L10"),
    ("A = 1\n" + "#\n" * 400, "L10"),
    ("A = '" + "a" * 120 + "'\n", "L10"),
    ("def f(a):\n\treturn a\n", "L10"),
    ("def f(_a):\n    return 1\n", "L12"),
    ("A = '\u00e9'\n", "L14"),
    ("A = 1\nA = 2\n", "L15"),
    ("class A:\n    pass\n\n\ndef f(A):\n    return A\n", "L15"),
    ("from beamtable.ways import beyond\n\n\ndef f(a):\n    beyond = a\n    return beyond\n", "L15"),
    ("def f(a):\n    from beamtable.ways import beyond\n    return beyond(a, a, 0)\n", "L2 L15"),
    ("A = 1  # the type\n", "L17"),
    ("def f(a):\n    try:\n        return a()\n    except Exception:\n        return 1\n", "L19"),
    ("def f(a):\n    return a is 3\n", "L20"),
    ("def f(a):\n    return a.casefold()\n", "L25"),
    ("def f(a):\n    return 2 ** a\n", "L27"),
    ("A = 'a % b'\n", "L27"),
    ("A = '\\x41'\n", "L27"),
    ("A = {1: 2}\n\n\ndef f(a):\n    A[a] = 3\n", "L15"),
    ("A = [1, 2]\n\n\ndef f(a):\n    A.append(a)\n", "L15"),
    ("A = [1, 2]\n\n\ndef f(a):\n    return A\n", "L15"),
    ("A = [1, 2]\n\n\ndef f(a):\n    return f(A)\n", "L15"),
    ("class A:\n    pass\n\n\ndef f(a):\n    return [A]\n", "L18"),
    ("from beamtable.errors import NoCell\n\n\ndef f(a):\n    return f(NoCell)\n", "L18"),
    ("def f(a):\n    return range(a)\n", "L23"),
    ("def f(a):\n    b = a.items()\n    return b\n", "L23"),
    ("def f(a):\n    return set(a)\n", "L24"),
    ("def f(a):\n    for b in set(a):\n        a.append(b)\n", "L24"),
]

# Files that are faulty only beside one another.
BROKEN_TOGETHER = [
    (
        {
            "a.py": "from beamtable.b import f\n",
            "b.py": "from beamtable.c import f\n",
            "c.py": "def f(a):\n    pass\n",
        },
        "a.py", "L16",
    ),
    ({"a.py": "from beamtable.b import B\nA = 1\n", "b.py": "from beamtable.a import A\nB = 1\n"}, "b.py", "L16"),
    (
        {
            "a.py": "class A:\n    def row(self):\n        return 1\n",
            "b.py": "class B:\n    def __init__(self):\n        self.row = 1\n",
        },
        "row", "L18",
    ),
]


def package_sources():
    return {path.name: path.read_text(encoding="utf-8") for path in sorted(FOLDER.glob("*.py"))}


class Rules(unittest.TestCase):
    def test_the_package_keeps_to_them(self):
        sources = package_sources()
        self.assertIn("__init__.py", sources)
        own = own_attributes([ast.parse(source) for source in sources.values()])
        for name, source in sources.items():
            with self.subTest(name):
                self.assertEqual(faults(source, own), [])

    def test_its_files_keep_to_them_together(self):
        self.assertEqual(package_faults(package_sources()), [])

    def test_broken_ones_are_seen_together(self):
        for sources, name, rule in BROKEN_TOGETHER:
            with self.subTest(sources):
                self.assertIn((name, rule), package_faults(sources))

    def test_nothing_else_lies_in_the_package(self):
        for path in FOLDER.iterdir():
            with self.subTest(path.name):
                plain = path.is_file() and re.fullmatch(r"[a-z][a-z0-9_]*\.py|__init__\.py|__main__\.py", path.name)
                self.assertTrue(plain or path.name == "__pycache__")

    def test_broken_ones_are_seen(self):
        for source, rule in BROKEN:
            with self.subTest(source):
                self.assertIn(rule, [fault[1] for fault in faults(source)])

    def test_plain_code_is_not(self):
        source = (
            "A = (1, 'b\\n', None)\n\n\nclass B:\n    def __init__(self, cells):\n        self.cells = list(cells)\n\n"
            "    def first(self):\n        return self.cells[0] if self.cells != [] else None\n"
        )
        self.assertEqual(faults(source), [])


if __name__ == "__main__":
    unittest.main()
