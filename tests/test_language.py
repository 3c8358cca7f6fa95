"""The rules of LANGUAGE.md that language.py checks: the package keeps them, and the script finds what breaks them."""

import pathlib
import subprocess
import sys
import tempfile
import unittest
import warnings

from language import faults_of

ROOT = pathlib.Path(__file__).parent.parent
PACKAGE = ROOT / "boundedlevels"

LONG = "def long(k):\n" + "    k += 1\n" * 39 + "    return k\n"
# (rule, text of a file that breaks it)
BROKEN = (
    ("L2", "import math\n"),
    ("L2", "from random import choice\n\n\ndef f():\n    return choice([1])\n"),
    ("L2", "from math import sqrt\n\n\ndef f():\n    return sqrt(4)\n"),
    ("L2", "from boundedlevels.plain import *\n"),
    ("L2", "from .plain import f\n\n\ndef g():\n    return f()\n"),
    ("L2", "def f():\n    from math import gcd\n    return gcd(2, 4)\n"),
    ("L2", "LEVEL = 3\nfrom math import gcd\n\n\ndef f():\n    return gcd(2, 4)\n"),
    ("L3", "LEVEL = len([3])\n"),
    ("L3", "for k in (1, 2):\n    pass\n"),
    ("L3", "LOW, HIGH = 1, 2\n"),
    ("L4", "def f(k):\n    return k\n\n\n@f\ndef g():\n    return 1\n"),
    ("L5", "class Box:\n    def __hash__(self):\n        return 1\n"),
    ("L6", "def f():\n    global k\n    k = 1\n"),
    ("L6", "async def f():\n    return 1\n"),
    ("L6", "def f(d):\n    try:\n        return d[1]\n    except:\n        return 1\n"),
    ("L7", "def f():\n    return 1.5\n"),
    ("L7", "def f(k):\n    return k / 2\n"),
    ("L8", "def f(k):\n    return hash(k)\n"),
    ("L8", "def f(k):\n    print(k)\n"),
    ("L8", "def f():\n    return open('x')\n"),
    ("L10", LONG),
    ("L10", "def f():\n    return 1  # " + "x" * 110 + "\n"),
    ("L10", "# a line\n" * 400),
    ("L14", "# \u00e9\n"),
    ("L14", "def f():\n\treturn 1\n"),
    ("L12", "def f():\n    __k = 1\n    return __k\n"),
    ("L12", "class _Box:\n    pass\n"),
    ("L12", "def f():\n    for _ in (1, 2):\n        return _\n"),
    ("L12", "def f(_lay_k):\n    return _lay_k\n"),
    ("L12", "def _record2():\n    return 1\n"),
    ("L15", "K = 1\nK = 2\n"),
    ("L15", "TABLE = {1: [2]}\n"),
    ("L15", "def f(min):\n    return min\n"),
    ("L15", "def f():\n    hash = 3\n    return hash\n"),
    ("L15", "def f():\n    for id in (1, 2):\n        return id\n"),
    ("L15", "def next():\n    return 1\n"),
    ("L15", "class Box:\n    pass\n\n\ndef f(Box):\n    return Box\n"),
    ("L15", "def f():\n    class Box:\n        pass\n    return Box()\n"),
    ("L16", "from boundedlevels.plain import gone\n\n\ndef f():\n    return gone()\n"),
    ("L16", "from boundedlevels.other import g\n\n\ndef f():\n    return g()\n"),
    ("L16", "from math import gcd\n\n\ndef f():\n    return 1\n"),
    ("L17", "def f(k):\n    return k.open\n"),
    ("L17", "def register():\n    return 1\n"),
    ("L17", "def f(k):\n    return type(k)\n"),
    ("L17", "WORD = 'enum'\n"),
    ("L17", "WORD = 'mydataclass'\n"),
    ("L20", "def f(a, b):\n    return a is b\n"),
    ("L25", "def f(k):\n    return k.format(3)\n"),
    ("L25", "def f(k):\n    return k.popitem()\n"),
    ("L26", "class Box:\n    def __init__(self):\n        self.args = 1\n"),
    ("L27", "WORD = 'a%s'\n"),
    ("L27", "WORD = 'a\\x41'\n"),
    ("L27", "def f(n):\n    return 2 ** n\n"),
    ("L27", "WORD = '__odd__'\n"),
    ("L28", "class Box:\n    def __init__(self):\n        return None\n"),
)
EQ = "class Box:\n    def __eq__(self, other):\n        return isinstance(other, Box)\n\n\n"
BROKEN += (
    ("L5", "def f(k):\n    return (k + k)(3)\n"),
    ("L5", "def f(k):\n    return k(3)(4)\n"),
    ("L7", "def f(k):\n    return (x for x in k)\n"),
    ("L7", "def f(k):\n    return set(x for x in k) == {1}\n"),
    ("L7", EQ + "def f(k):\n    return any(x for x in k)\n"),
    ("L22", "def f(k):\n    return int(k, base=3)\n"),
    ("L22", "def f(k):\n    return sorted(k, reversed=True)\n"),
    ("L22", "def f(k):\n    best = max\n    return best(k)\n"),
    ("L22", "def f(k):\n    return k(min)\n"),
    ("L22", "def f(k):\n    return [len, 1]\n"),
    ("L23", "def f(k):\n    return zip(k, k)\n"),
    ("L23", "def f(k):\n    return reversed(k)\n"),
    ("L23", "def f(k):\n    return [range(3)]\n"),
    ("L23", "def f(k):\n    return k.items() == 3\n"),
    ("L23", "def f(k):\n    return list(reversed(k.items()))\n"),
    ("L24", "def f(k):\n    return set(k)\n"),
    ("L24", "def f(k):\n    return [x for x in {1, k}]\n"),
    ("L24", "def f(k):\n    for x in set(k):\n        return x\n"),
    ("L24", "def f(k):\n    return list({x for x in k})\n"),
    ("L25", EQ + "def f(k):\n    k.sort()\n    return k\n"),
)
BOX = "class Box:\n    def __init__(self, n):\n        self.n = n\n\n"
NOT_ITERATED = "    def __iter__(self):\n        raise TypeError('no')\n\n"
BROKEN += (
    ("L4", "def f(k=[]):\n    return k\n"),
    ("L4", "def f(k=len('ab')):\n    return k\n"),
    ("L5", BOX + "    def __getitem__(self, at):\n        return at\n"),
    ("L5", BOX + "    def __getitem__(self, at):\n        return at\n\n    def __iter__(self):\n        return 1\n"),
    ("L5", BOX + NOT_ITERATED + "    def __getitem__(self, at):\n        return at\n\n    def keys(self):\n"
           "        return 1\n"),
    ("L5", BOX + "    def __eq__(self, other, by=1):\n        return isinstance(other, Box)\n"),
    ("L5", BOX + "    def __contains__(self):\n        return True\n"),
    ("L5", BOX + "    @property\n    def many(self, by):\n        return by\n"),
    ("L5", BOX + "    @property\n    def many(self):\n        self.n = 1\n        return self.n\n"),
    ("L5", BOX + "    @property\n    def many(self):\n        self.n.append(1)\n        return self.n\n"),
    ("L5", BOX + "    def __len__(self):\n        self.n[0] = 1\n        return len(self.n)\n"),
    ("L5", BOX + "    def __rshift__(self, other):\n        return other(3)\n"),
    ("L5", "def g(row):\n    row.append(1)\n    return row\n\n\n" + BOX
           + "    def __eq__(self, other):\n        return g(self.n) == other\n"),
    ("L5", "def g(way):\n    return way(1)\n\n\n" + BOX + "    @property\n    def many(self):\n"
           "        return g(self.n)\n"),
    ("L5", BOX + NOT_ITERATED + "    def __getitem__(self, at):\n        return list(reversed(self.n))\n"),
    ("L5", BOX + "    @property\n    def many(self):\n        return self.n\n\n\nclass Bag:\n"
           "    def many(self):\n        return 1\n"),
    ("L15", "TABLE = {1: 2}\n\n\ndef f(k):\n    TABLE[k] = 1\n"),
    ("L15", "TABLE = [1]\n\n\ndef f(k):\n    TABLE.append(k)\n"),
    ("L18", BOX + "    def n(self):\n        return 1\n"),
    ("L18", BOX + "    def one(self):\n        return 1\n\n    def one(self):\n        return 2\n"),
    ("L18", BOX + "    def one(self):\n        return self._many\n"),
    ("L19", "def f(e):\n    raise e\n"),
    ("L19", "def f(e):\n    raise e.wrong()\n"),
    ("L19", "def f(d):\n    try:\n        return d[1]\n    except Exception:\n        return 1\n"),
    ("L19", "def f(d):\n    try:\n        return d[1]\n    except (KeyError, TypeError):\n        return 1\n"),
    ("L22", "def g(a, b=1):\n    return a\n\n\ndef f():\n    return g()\n"),
    ("L22", "def g(a, b=1):\n    return a\n\n\ndef f():\n    return g(1, 2, 3)\n"),
    ("L22", "def g(a, b=1):\n    return a\n\n\ndef f():\n    return g(1, c=3)\n"),
    ("L22", BOX + "\ndef f():\n    return Box()\n"),
    ("L23", "def f(rows):\n    for row in rows:\n        rows.append(row)\n"),
    ("L23", "def f(rows):\n    for at, row in enumerate(rows):\n        rows[at] = row\n"),
    ("L23", "def f(d):\n    for k, v in d.items():\n        del d[k]\n"),
    ("L28", BOX + "    def __len__(self):\n        return self.n\n"),
)
SOUND = (
    '"""A file."""\n\nfrom math import gcd\n\nWORDS = ("add", "type")\n\n\nclass Box:\n    """A type of box."""\n\n'
    '    def __init__(self, size):\n        self._size = size\n\n    @property\n    def size(self):\n'
    '        return self._size\n\n\ndef shared(one, other):\n    # An enum would do, too.\n    for _ in range(3):\n'
    '        one = gcd(one, other)\n    return one if one is not None else Box(one).size\n'
    '\n\ndef asked(rows):\n    seen = set()\n    for place, row in enumerate(rows):\n        seen.add(row)\n'
    '    least = min([len(row) for row in rows], default=None)\n    spots = range(least)\n'
    '    table = {place: row for place, row in zip(spots, reversed(list(rows)))}\n'
    '    if isinstance(least, int) and len(set(rows)) in {1, 2} and least in range(3):\n'
    '        return sorted(set(rows), key=len)\n    return sorted([row for row in table.values() if row in seen])\n'
    '\n\nclass Shelf:\n    def __init__(self, rows, by=1):\n        self._rows = list(rows)\n\n'
    '    @property\n    def first(self):\n        told = [row for row in self._rows]\n        told.append(1)\n'
    '        return told[0]\n\n    def put(self, row):\n        self._rows.append(row)\n\n'
    '    def __len__(self):\n        return len(self._rows)\n\n    def __getitem__(self, at):\n'
    '        return self._rows[at]\n\n    def __iter__(self):\n        raise TypeError("no")\n\n\n'
    'class Bad(ValueError):\n    pass\n\n\ndef filled(rows, by=2):\n    shelf = Shelf(rows, by=by)\n'
    '    for row in list(rows):\n        rows.append(row)\n    try:\n        return asked(rows)\n'
    '    except (Bad, KeyError):\n        raise Bad("no") from None\n'
)


def written(folder, files):
    package = pathlib.Path(folder) / "boundedlevels"
    package.mkdir()
    for name, text in {"__init__.py": '"""A package."""\n', **files}.items():
        (package / name).write_text(text, encoding="utf-8")
    return package


class Package(unittest.TestCase):
    def test_has_no_fault(self):
        self.assertEqual(faults_of(PACKAGE), [])

    def test_is_there(self):
        names = {path.name for path in PACKAGE.glob("*.py")}
        listed = "errors plain ways leasts late units rounds woven heaps flows readings needs account texts board desk"
        self.assertTrue({"__init__.py", *[f"{name}.py" for name in listed.split()]} <= names, names)

    def test_python_has_no_warning(self):
        for path in PACKAGE.glob("*.py"):
            with self.subTest(path=path.name), warnings.catch_warnings():
                warnings.simplefilter("error")
                compile(path.read_text(encoding="ascii"), path.name, "exec")

    def test_each_file_can_be_imported_by_itself(self):
        for path in sorted(PACKAGE.glob("*.py")):
            name = "boundedlevels" if path.stem == "__init__" else f"boundedlevels.{path.stem}"
            with self.subTest(name=name):
                done = subprocess.run([sys.executable, "-B", "-c", f"import {name}"], cwd=ROOT, capture_output=True)
                self.assertEqual((done.returncode, done.stdout, done.stderr), (0, b"", b""))


class Script(unittest.TestCase):
    def test_finds_what_breaks_a_rule(self):
        for rule, text in BROKEN:
            with self.subTest(rule=rule, text=text[:60]), tempfile.TemporaryDirectory() as folder:
                # The other file imports from the broken one: what imports from it makes a ring.
                other = "from boundedlevels.broken import f\n\n\ndef g():\n    return f()\n"
                package = written(folder, {"broken.py": text, "plain.py": "def f():\n    return 1\n",
                                           "other.py": other if "other import g" in text else ""})
                found = {fault.split(": ")[1] for fault in faults_of(package) if "broken.py" in fault}
                self.assertIn(rule, found)

    def test_finds_nothing_in_what_keeps_them(self):
        with tempfile.TemporaryDirectory() as folder:
            self.assertEqual(faults_of(written(folder, {"sound.py": SOUND})), [])

    def test_finds_wrong_files(self):
        for name in ("Plain.py", "plain.txt", "test_plain.py", "tests.py", "len.py", "a-b.py"):
            with self.subTest(name=name), tempfile.TemporaryDirectory() as folder:
                self.assertNotEqual(faults_of(written(folder, {name: ""})), [])
        with tempfile.TemporaryDirectory() as folder:
            package = written(folder, {"plain.py": ""})
            (package / "__init__.py").unlink()
            self.assertEqual(len(faults_of(package)), 1)


if __name__ == "__main__":
    unittest.main()
