"""The package keeps to LANGUAGE.md, as far as the source text shows it, and the check finds what does not."""

import pathlib
import unittest

from tests.language import faults

FOLDER = pathlib.Path(__file__).parent.parent / "millbrook"

# For each rule some files that break it; the other rules are not looked at.
BROKEN = {
    "L1": ({"Bad-Name.py": ""},),
    "L2": (
        "import math", "from os import path", "from . import rows", "from millbrook.other import *",
        "from millbrook.other import made as told", "A = 1\nfrom math import gcd", "from math import sqrt",
        "def f():\n    from math import gcd", "from math import gcd\ndef f(x):\n    return sorted(x, key=gcd)",
    ),
    "L3": ("A = len('x')", "A, B = 1, 2", "A = B = 1", "if True:\n    A = 1", "A = [x for x in (1, 2)]", "print(1)"),
    "L4": ("@cached\ndef f():\n    return 1", "def f(x=[]):\n    return x", "def f(x=len):\n    return x"),
    "L5": (
        "class A:\n    x = len('a')", "class A:\n    def __hash__(self):\n        return 1",
        "@final\nclass A:\n    pass", "class A(metaclass=B):\n    pass", "def f(x):\n    return x.__dict__",
        "class A:\n    def __radd(self):\n        return 1\n    def __next__(self):\n        return 1",
        "class A:\n    def __or__(self, x):\n        self.n = 1\n        return A()",
        "class A:\n    def __and__(self, x):\n        x[0] = 1\n        return A()",
        "class A:\n    def __len__(self):\n        return len(f(self))\ndef f(x):\n    x.append(1)\n    return x",
        "class A:\n    @property\n    def n(self):\n        return self.m()\n    def m(self):\n        del self.k[0]",
        "class A:\n    def __contains__(self, x):\n        return x(1)",
        "class A:\n    def __add__(self, x):\n        y = A()\n        y = x\n        y.n = 1\n        return y",
        "class A:\n    def __add__(self, x):\n        return f(x)\ndef f(x):\n    x.n = 1\n    return x",
        "class A:\n    def __init__(self, index):\n        self.index = index\n"
        "    def __or__(self, x):\n        return A(f(x))\ndef f(x):\n    return (1, 2).index(x)",
        "class A:\n    def __init__(self, x):\n        self.index = (1, 2).index(x)\n"
        "    def __and__(self, x):\n        return A(x)",
        {"__init__.py": "", "a.py": "class A:\n    def __init__(self, text):\n        self.text = text",
         "b.py": "class B:\n    def __eq__(self, x):\n        return f(x)\ndef f(x):\n    return x.text()"},
    ),
    "L6": (
        "def f():\n    global x\n    x = 1", "async def f():\n    pass",
        "def f():\n    try:\n        f()\n    except:\n        pass", "def f():\n    x = yield 1",
        "def f(x):\n    del x.y",
    ),
    "L7": (
        "A = 1.0", "def f(x):\n    return x / 2", "def f(x):\n    return any(y for y in x)",
        "def f(x):\n    return (y for y in x)", "def f(x):\n    return bytes(x)", "A = ...", "def f(x):\n    return 1j",
    ),
    "L8": (
        "def f(x):\n    return filter(None, x)", "def f(x):\n    return round(x)", "def f(x):\n    return x.__secret",
        "def f(x):\n    return unknown(x)",
    ),
    "L9": ("def f(x):\n    print(x)", "from sys import stdin", "def f(x):\n    return open(x)"),
    "L10": (
        "def f():\n" + "    f()\n" * 40, "A = 1\n" * 400, "A = " + "1 + " * 40 + "1", "def f():\n\treturn 1",
    ),
    "L11": (
        "def f():\n    for x in {1, 2}:\n        f()", "def f(e):\n    return e.args",
        "def f(y):\n    return [x for x in set(y)]",
    ),
    "L12": (
        "def f(_, x):\n    return _", "class _A:\n    pass", "def _lay_stone():\n    return 1", "_record2 = 1",
        "def f(_wall):\n    return 1", "def f__(x):\n    ___x = 1", "def f():\n    h\u00e9 = 1",
    ),
    "L13": ("def f():\n    x = {1, 2, 3}", "def f():\n    g = (lambda x: x, lambda x: 2)"),
    "L14": (
        "A = '\u2013'", "# \u00e9", {"__init__.py": "", "test.py": ""}, {"__init__.py": "", "len.py": ""},
        {"rows.py": ""},
    ),
    "L15": (
        "A = 1\nA = 2", "def f():\n    return 1\ndef f():\n    return 2", "def f(max):\n    return 1",
        "def f():\n    id = 1", "class A:\n    pass\ndef f(A):\n    return 1", "def f():\n    class A:\n        pass",
        "def sum(x):\n    return x",
    ),
    "L16": (
        {"__init__.py": "", "a.py": "from millbrook.b import x", "b.py": "from millbrook.c import x", "c.py": "x = 1"},
        {"__init__.py": "", "a.py": "from millbrook.b import x\ny = 1", "b.py": "from millbrook.a import y\nx = 1"},
        "from millbrook.missing import x",
    ),
    "L17": (
        "def open():\n    return 1", "def f(law):\n    return 1", "def f(x):\n    return x.tb_next", "type = 1",
        "def f(x):\n    return 'enum'", "def dataclasses():\n    return 1", "def f(copyright):\n    return 1",
    ),
    "L18": (
        "class A:\n    pass\nB = [A]", "class A:\n    pass\ndef f():\n    return A", "def f(x):\n    x[0].y = 1",
        "class A:\n    def f(self):\n        return 1\n    def f(self):\n        return 2",
        "class A:\n    def __init__(self):\n        self.f = 1\n    def f(self):\n        return 2",
    ),
    "L19": (
        "def f(x):\n    raise x", "def f(x):\n    raise x.wrong()", "def f():\n    raise ValueError",
        "def f():\n    try:\n        f()\n    except Exception:\n        pass", "def f():\n    raise OSError(1)",
        "def f():\n    try:\n        f()\n    except (KeyError, TypeError):\n        pass",
    ),
    "L20": (
        "def f(x):\n    return x is 1", "def f(x, y):\n    return x is not y",
        "def f(x, y):\n    return x is y is None",
    ),
    "L21": ("def f(x: int):\n    return x", "def f(x) -> int:\n    return x", "A: int = 1"),
    "L22": (
        "def f(x):\n    return int(x, base=2)", "def f(x):\n    return f(len)", "A = len",
        "def f(x):\n    return sum(x, begin=1)",
    ),
    "L23": (
        "def f(x):\n    return zip(x, x)", "def f(x):\n    return f(x.items())", "def f(x):\n    return len(zip(x, x))",
        "def f(x):\n    for y in x:\n        x.append(y)", "def f(x):\n    for k, y in enumerate(x):\n        x[k] = y",
        "def f(x):\n    for k in x.keys():\n        x.pop(k)", "def g():\n    yield 1\ndef f():\n    return g()",
    ),
    "L24": (
        "def f(x):\n    return set(x)", "def f(x):\n    return {y for y in x}", "def f(x):\n    return f({1, x})",
        "def f(x):\n    return sorted(frozenset(x))",
    ),
    "L25": (
        "def f(x):\n    return x.popitem()", "def f(x):\n    return x.format_map(x)",
        "def f(x):\n    return x.split(sep=' ')",
    ),
    "L26": (
        "class A:\n    def __init__(self):\n        self.items = 1",
        "class A:\n    def as_integer_ratio(self):\n        return 1",
        "class A:\n    def __init__(self, x):\n        self.args = x",
        "class A:\n    def encode(self):\n        return 1",
    ),
    "L27": (
        "def f(x):\n    return 2 ** x", "A = 2 ** 65", "A = 'x%'", "A = '\\t\\r'", "A = '__x__'",
        "def f(x):\n    return chr(x)", "A = '._'",
    ),
    "L28": (
        "class A:\n    def __init__(self):\n        return None",
        "class A:\n    def __len__(self):\n        return self.n", "def __len__(self):\n    return 1",
        "class A:\n    def __str__(self):\n        if self.n:\n            return 'x'",
        "class A:\n    def __str__(self):\n        return self.text",
        "class A:\n    def __repr__(self):\n        return 'A' + str(self.n)",
        "class A:\n    def __repr__(self):\n        if self.n:\n            return told(self)\n        return 'x'",
        "class A:\n    def __str__(self):\n        def f(x):\n            return x\n        return str(f(1))",
        "class A:\n    def __str__(self):\n        return self.sign.join(['x'])",
        "class A:\n    def __eq__(self, other):\n        self.n = 1\n        return True",
    ),
}


class Language(unittest.TestCase):

    def test_the_folder_contains_the_package_alone(self):
        names = sorted(path.name for path in FOLDER.iterdir() if path.name != "__pycache__")
        self.assertEqual([name for name in names if not name.endswith(".py")], [])
        self.assertIn("__init__.py", names)

    def test_the_package_keeps_to_the_rules(self):
        texts = {path.name: path.read_bytes().decode("utf-8") for path in FOLDER.glob("*.py")}
        self.assertEqual(faults(texts), [])

    def test_each_rule_is_looked_at(self):
        self.assertEqual(list(BROKEN), [f"L{number}" for number in range(1, 29)])
        for rule, samples in BROKEN.items():
            for sample in samples:
                texts = sample if isinstance(sample, dict) else {"__init__.py": "", "sample.py": sample}
                with self.subTest(rule=rule, sample=sample):
                    self.assertIn(rule, [found for found, _, _ in faults(texts)])
