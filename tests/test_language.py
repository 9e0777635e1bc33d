"""The package keeps to the part of Python that LANGUAGE.md tells."""

import os
import re
import unittest

from tests.language import circles, faults, package_of

PACKAGE = os.path.join(os.path.dirname(os.path.dirname(os.path.abspath(__file__))), "coverroll")

# One breach each: the check itself must be able to see them.
BREACHES = (
    ("L3", "import sys\n"),
    ("L2", "from math import ceil\n"),
    ("L2", "from coverroll.errors import *\n"),
    ("L3", "print(1)\n"),
    ("L3", "most = 10 ** 6\n"),
    ("L4", "def f(*a):\n    return a\n"),
    ("L4", "def f(a=[]):\n    return a\n"),
    ("L5", "class C:\n    k = 1\n"),
    ("L6", "def f():\n    a = b = 1\n    return a\n"),
    ("L6", "def f(a):\n    with a:\n        pass\n"),
    ("L6", "def f(a):\n    assert a\n"),
    ("L6", "def f(a):\n    \"\"\"tells a\"\"\"\n    return a\n"),
    ("L7", "def f(a):\n    return a / 2\n"),
    ("L7", "def f():\n    return 0.5\n"),
    ("L7", "def f(a):\n    return f\"{a:02}\"\n"),
    ("L6", "def f(a):\n    return sum(x for x in a)\n"),
    ("L8", "def f(a):\n    return map(f, a)\n"),
    ("L10", "def f():\n" + "    f()\n" * 40),
    ("L12", "def f(_a):\n    return f(_a)\n"),
    ("L14", "k = \"\u00e4\"\n"),
    ("L15", "k = 1\nk = 2\n"),
    ("L15", "def f(len):\n    return 1\n"),
    ("L17", "# of this type\n"),
    ("L19", "def f():\n    try:\n        f()\n    except Exception:\n        pass\n"),
    ("L20", "def f(a, b):\n    return a is b\n"),
    ("L23", "def f(a):\n    k = zip(a, a)\n    return list(k)\n"),
    ("L25", "def f(a):\n    return a.isdecimal()\n"),
    ("L27", "def f(n):\n    return 2 ** n\n"),
)


def sources():
    found = {}
    for name in sorted(os.listdir(PACKAGE)):
        if name.endswith(".py"):
            with open(os.path.join(PACKAGE, name), encoding="utf-8", newline="") as file:
                found["coverroll." + name[:-3]] = file.read()
    return found


class TestLanguage(unittest.TestCase):
    def test_the_package_has_no_faults(self):
        files = sources()
        package = package_of(files)
        for path, source in files.items():
            with self.subTest(path=path):
                self.assertEqual(faults(path, source, package), [])

    def test_files_have_plain_names_and_nothing_else_lies_there(self):
        for name in os.listdir(PACKAGE):
            if name != "__pycache__":
                self.assertTrue(re.fullmatch(r"(__init__|__main__|[a-z][a-z0-9_]*)\.py", name), name)
        self.assertIn("__init__.py", os.listdir(PACKAGE))

    def test_no_two_files_draw_from_one_another(self):
        self.assertEqual(circles(package_of(sources())["draws"]), [])
        self.assertEqual(circles({"a": ["b"], "b": ["c"], "c": ["b"]}), ["b", "c"])

    def test_no_name_is_a_method_and_a_value(self):
        package = package_of(sources())
        self.assertEqual(package["methods"] & package["values"], set())

    def test_breaches_are_seen(self):
        for rule, source in BREACHES:
            with self.subTest(rule=rule, source=source):
                package = package_of({"coverroll.x": source})
                self.assertIn(rule, [fault[0] for fault in faults("coverroll.x", source, package)])


if __name__ == "__main__":
    unittest.main()
