import pathlib
import re
import unittest

from language import PACKAGE, faults, shared_faults

FOLDER = pathlib.Path(__file__).resolve().parent.parent / PACKAGE
WRONG = [
    "import math\n", "from math import comb\n", "from . import errors\n", "from latefare.errors import *\n",
    "X = 10 ** 6\n", "X = 1\nX = 2\n", "print(1)\n", "X = 1.5\n", "X = b'a'\n", "X = 'a % b'\n",
    "def f(*a):\n    return a\n", "def f(**a):\n    return a\n", "def f(a, *, b):\n    return a\n",
    "def f():\n    yield 1\n", "def f(a):\n    assert a\n", "def f(a):\n    del a\n", "def f(a):\n    return a / 2\n",
    "def f(a):\n    return 2 ** a\n", "def f(a):\n    return sum(x for x in a)\n",
    "def f(a):\n    return {x for x in a}\n",
    "def f(a):\n    return a is 3\n", "def f(a):\n    a = b = 1\n", "def f(a):\n    return [*a]\n",
    "def f(id):\n    return 1\n", "def f(a):\n    return map(f, a)\n", "def f(a):\n    return a.sort()\n",
    "def f(a):\n    return chr(a)\n", "def f_(_a):\n    return 1\n", "def f(a):\n    return (b := a)\n",
    "class A:\n    x = 1\n", "class A(B, C):\n    pass\n", "# a type\n", "# \u00e4\n", "X = '\t'\n", "#" * 121 + "\n",
    "def f(a):\n    try:\n        a()\n    except Exception:\n        pass\n", "def f(a):\n    with a:\n        pass\n",
    "def f():\n" + "    pass\n" * 40, "# x\n" * 401,
]


class LanguageTest(unittest.TestCase):
    def test_every_file_keeps_to_the_language(self):
        paths = sorted(FOLDER.rglob("*.py"))
        self.assertIn("sales.py", [path.name for path in paths])
        for path in paths:
            with self.subTest(path=path.name):
                self.assertEqual(faults(path.read_text(encoding="utf-8")), [])

    def test_the_files_together_keep_to_the_language(self):
        sources = {path.stem: path.read_text(encoding="utf-8") for path in FOLDER.rglob("*.py")}
        self.assertEqual(shared_faults(sources), [])

    def test_what_leaves_it_over_several_files_is_found(self):
        self.assertNotEqual(shared_faults({
            "one": "from latefare.two import f\n", "two": "from latefare.three import f\n",
            "three": "from latefare.one import f\n"}), [])
        self.assertNotEqual(shared_faults({
            "one": "class A:\n    def left(self):\n        return 1\n",
            "two": "class B:\n    def __init__(self):\n        self.left = 1\n"}), [])

    def test_the_folder_holds_plain_files_alone(self):
        names = [path.name for path in FOLDER.iterdir() if path.name != "__pycache__"]
        self.assertIn("__init__.py", names)
        for name in names:
            with self.subTest(name=name):
                self.assertTrue(re.fullmatch(r"(__init__|__main__|[a-z][a-z0-9_]*)\.py", name))

    def test_what_leaves_the_language_is_found(self):
        for source in WRONG:
            with self.subTest(source=source):
                self.assertNotEqual(faults(source), [])


if __name__ == "__main__":
    unittest.main()
