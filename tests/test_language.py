"""The package keeps to LANGUAGE.md: what can be read off its files."""

import pathlib
import unittest
import warnings

import joinedever
from language import faults_of, package_faults

FOLDER = pathlib.Path(joinedever.__file__).parent

# A file that breaks a rule, for each of the rules that are read: the reader itself is tested by them.
BROKEN = (
    ("L2", "import sys\n"),
    ("L2", "from .errors import NoRow\n"),
    ("L3", "print(1)\n"),
    ("L3", "xs = list((1, 2))\n"),
    ("L3", "def f(k):\n    return k\n\n\nxs = (f,)\n\n\ndef g(k):\n    return xs[0](k)\n"),
    ("L4", "def f(*xs):\n    return xs\n"),
    ("L5", "class C:\n    k = 1\n"),
    ("L6", "def f(k):\n    with k:\n        pass\n"),
    ("L6", "def f(k):\n    while k:\n        pass\n    else:\n        pass\n"),
    ("L7", "def f(k):\n    return k / 2\n"),
    ("L7", "def f(k):\n    return k * 1.5\n"),
    ("L7", "def f(xs):\n    return sum(x for x in xs)\n"),
    ("L8", "def f(x):\n    return hash(x)\n"),
    ("L10", "def f(k):\n" + "    k += 1\n" * 40 + "    return k\n"),
    ("L10", "# " + "a" * 120 + "\n"),
    ("L12", "def f():\n    _k = 1\n    return _k\n"),
    ("L14", "# \u00e9\n"),
    ("L15", "def f(max):\n    return max\n"),
    ("L15", "k = 1\nk = 2\n"),
    ("L15", "xs = [1]\n\n\ndef f():\n    xs.append(2)\n"),
    ("L15", "xs = {1: [2]}\n"),
    ("L17", "# a type\n"),
    ("L17", "def f(elements):\n    return elements\n"),
    ("L19", "def f(k):\n    raise k\n"),
    ("L19", "def f(k):\n    try:\n        return int(k)\n    except ValueError:\n        return 0\n"),
    ("L19", "def f(k):\n    try:\n        return k[0]\n    except KeyError as e:\n        return e\n"),
    ("L19", "def f(k):\n    try:\n        return k[0]\n    except KeyError as e:\n        return e.args\n"),
    ("L19", "def f(k):\n    raise KeyError(k) from k\n"),
    ("L20", "def f(k):\n    return k is k\n"),
    ("L22", "def f(xs):\n    return list(xs, key=len)\n"),
    ("L22", "def f(xs):\n    return sorted(xs, default=1)\n"),
    ("L22", "def f(k):\n    return k.split(sep=1)\n"),
    ("L23", "def f(k):\n    xs = range(k)\n    return xs\n"),
    ("L23", "def f(xs):\n    for x in xs:\n        xs.append(x)\n"),
    ("L24", "def f(xs):\n    ys = set(xs)\n    return ys\n"),
    ("L24", "def f(xs):\n    return {x for x in xs}\n"),
    ("L24", "def f(k):\n    return {k, 1, 2, 3}\n"),
    ("L25", "def f(xs):\n    return xs.hex_of()\n"),
    ("L27", "def f(k):\n    return 2 ** k\n"),
)


def sources():
    return {path.stem: path.read_bytes().decode("ascii") for path in FOLDER.glob("*.py")}


class Language(unittest.TestCase):
    def test_the_package_breaks_no_rule(self):
        self.assertEqual(package_faults(sources()), [])

    def test_the_folder_has_nothing_else(self):
        others = [path.name for path in FOLDER.iterdir() if path.suffix != ".py" and path.name != "__pycache__"]
        self.assertEqual(others, [])
        self.assertIn("__init__", sources())

    def test_python_itself_warns_of_nothing(self):
        with warnings.catch_warnings():
            warnings.simplefilter("error")
            for name, source in sources().items():
                compile(source, name, "exec")

    def test_the_reader_sees_broken_rules(self):
        for rule, source in BROKEN:
            with self.subTest(rule=rule, source=source):
                self.assertIn(rule, [found for found, at in faults_of(source)])

    def test_the_reader_sees_what_stands_between_files(self):
        ring = {"a": "from joinedever.b import k\n", "b": "from joinedever.a import k\n"}
        self.assertIn("L16", [rule for rule, where, at in package_faults(ring)])
        both = {
            "a": "class C:\n    def top(self):\n        return 1\n",
            "b": "class D:\n    def __init__(self):\n        self.top = 1\n",
        }
        self.assertIn("L18", [rule for rule, where, at in package_faults(both)])
        self.assertIn("L14", [rule for rule, where, at in package_faults({"sum": ""})])


if __name__ == "__main__":
    unittest.main()
