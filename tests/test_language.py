"""The package keeps to its small part of Python, so no clock, chance or file is in reach ([1])."""

import unittest
from pathlib import Path

import cellkeep
from tests.language import complaints

FOLDER = Path(cellkeep.__file__).parent

OUTSIDE = [
    "import os\n",
    "import random\n",
    "from time import time\n",
    "from cellkeep import words\n",
    "from cellkeep.words import lost\n",
    "from cellkeep.words import *\n",
    "from .words import kind\n",
    "def late():\n    from cellkeep.words import kind\n    return kind(0)\n",
    "kept = sorted([1])\n",
    "kept = 1\nkept = 2\n",
    "print(1)\n",
    "def f(*rest):\n    return rest\n",
    "def f(**rest):\n    return rest\n",
    "def f(a):\n    yield a\n",
    "def f(a):\n    with a:\n        pass\n",
    "def f(a):\n    assert a\n",
    "def f(a):\n    return a / 2\n",
    "def f(a):\n    return 2 ** a\n",
    "def f(a):\n    return 1.5\n",
    "def f(a):\n    return {b for b in a}\n",
    "def f(a):\n    return {b: b for b in a}\n",
    "def f(a):\n    return [b for c in a for b in c]\n",
    "def f(a):\n    return a is f\n",
    "def f(a):\n    return a is 1\n",
    "def f(a):\n    b = c = a\n    return b\n",
    "def f(a):\n    for b in a:\n        pass\n    else:\n        return a\n",
    "def f(a):\n    try:\n        return a()\n    except Exception:\n        return 0\n",
    "def f(a):\n    try:\n        return a()\n    finally:\n        return 0\n",
    "def f(a):\n    raise a\n",
    "def f(a):\n    return a.sort()\n",
    "def f(a):\n    return a.encode()\n",
    "def f(a):\n    return map(f, a)\n",
    "def f(a):\n    return open(a)\n",
    "def f(a):\n    return hash(a)\n",
    "def f(a):\n    return a._hidden\n",
    "def f(a):\n    _ = a\n",
    "def f(list):\n    return list\n",
    "def _f(a):\n    return a\n",
    "class C:\n    kept = 1\n",
    "class C(ValueError, KeyError):\n    pass\n",
    "def f(a):\n    class C:\n        pass\n    return C()\n",
    "class C:\n    def f(self):\n        self.f = 1\n",
    "class C:\n    def f(self):\n        self.g = 1\n\n\nclass D:\n    def g(self):\n        return 1\n",
    "class C:\n    def f(self):\n        self.values = 1\n",
    "class C:\n    def f(self):\n        return 1\n\n    def f(self):\n        return 2\n",
    "class C:\n    def encode(self):\n        return 1\n",
    "from cellkeep.words import kind\n\n\ndef f(kind):\n    return kind\n",
    "from cellkeep.words import kind\n\n\ndef f(a):\n    for kind in a:\n        return kind\n",
    "class C:\n    pass\n\n\ndef f(a):\n    C = a\n    return C\n",
    "def f(a):\n    b = range(a)\n    return b\n",
    "def f(a):\n    return a.items()\n",
    "def f(a):\n    return enumerate(a)\n",
    "def f(a):\n    b = set(a)\n    return b\n",
    "def f(a):\n    for b in set(a):\n        return b\n",
    "def f(a):\n    return f\"{a.b}\"\n",
    "def f(a):\n    return f\"{a()}\"\n",
    "def f(a):\n    return f\"{a[0]}\"\n",
    "def f(a):\n    return f\"{a:3}\"\n",
    "def f(a):\n    return f\"{a!s}\"\n",
    "def f(a):\n    b, c = a\n    return b\n",
    "def f(a):\n    b = a.append\n    return b\n",
    "class C:\n    def probed(self):\n        return [self.probed]\n",
    "def f(a):\n    b = len\n    return b(a)\n",
    "def f(a):\n    return str(object=a)\n",
    "def f(a):\n    return a.split(sep=a)\n",
    "kept = {1: [2]}\n",
    "kept = [1]\n\n\ndef f():\n    return kept\n",
    "kept = [1]\n\n\ndef f(a):\n    kept[0] = a\n",
    "kept = [1]\n\n\ndef f(a):\n    kept.append(a)\n",
    "kept = {1: 2}\n\n\ndef f(a):\n    return f(kept)\n",
    "# the type of a word\n",
    "# caf\u00e9\n",
    "def f(a):\n\treturn a\n",
    "kept = \"5%\"\n",
    "# " + "a" * 119 + "\n",
    "def f(a):\n" + "    a = a\n" * 40 + "    return a\n",
    "\n" * 401,
]

INSIDE = (
    '"""A file."""\n\nfrom cellkeep.words import kind\n\nMOST = 8\nLEAST = -1\n\n\n'
    'class C(ValueError):\n    """Why."""\n\n    def __init__(self, a):\n        ValueError.__init__(self)\n'
    '        self.a = a\n\n    def probed(self):\n        return self.a\n\n\n'
    'def f(a, b=None):\n    if b is None or kind(a) == "place":\n        raise C(10 ** 12)\n'
    '    return [c.probed() for c in sorted(a) if c % 2 == 1]\n\n\n'
    'def g(a):\n    for at, b in enumerate(zip(range(9), a.items())):\n        if at in set(b):\n'
    '            return list(range(at))\n    return len(set(a) - set(a.get(1)))\n\n\n'
    'KEPT = {1: (2, 3)}\n\n\n'
    'def h(a):\n    if a in KEPT and len(KEPT) == KEPT[a][0]:\n        return f"{a} and {a!r}"\n'
    '    return max([KEPT.get(b) for b in list(KEPT)], key=len, default=a)\n'
)


def package_files():
    return {path.name: path.read_text(encoding="utf-8") for path in sorted(FOLDER.glob("*.py"))}


def probed(text):
    """What is told of a file beside those few that it draws from."""
    files = package_files()
    few = {name: files[name] for name in ["__init__.py", "errors.py", "whole.py", "words.py"]}
    return complaints(dict(few, **{"probe.py": text}))


class LanguageTest(unittest.TestCase):

    def test_the_package_keeps_to_it(self):
        self.assertEqual(complaints(package_files()), [])

    def test_nothing_else_lies_in_the_package(self):
        lying = [path.name for path in FOLDER.iterdir() if path.name != "__pycache__"]
        self.assertEqual(sorted(lying), sorted(package_files()))

    def test_what_lies_outside_is_seen(self):
        for text in OUTSIDE:
            with self.subTest(text):
                self.assertNotEqual(probed(text), [])

    def test_what_lies_inside_is_let_be(self):
        self.assertEqual(probed(INSIDE), [])
        self.assertEqual(probed(""), [])

    def test_circles_are_seen(self):
        circle = {
            "one.py": "from cellkeep.two import f\n\n\ndef g():\n    return f()\n",
            "two.py": "from cellkeep.one import g\n\n\ndef f():\n    return g()\n",
        }
        self.assertNotEqual(complaints(dict(package_files(), **circle)), [])
        upward = {"__init__.py": "from cellkeep.words import kind\n"}
        self.assertNotEqual(complaints(dict(package_files(), **upward)), [])

    def test_file_names(self):
        for name in ["Words.py", "test.py", "test_words.py", "filter.py", "site.py"]:
            with self.subTest(name):
                self.assertNotEqual(complaints({name: ""}), [])
