"""LANGUAGE.md L5 Operators, L5 Properties and L28: what operators, properties and the like run changes nothing.

From each operator (in-place ones and __setitem__ excepted), each property and each __eq__, __str__, __repr__ and
__len__, all functions of the package are followed that it calls; a method is every method of that name. So a call of a
name that objects of the package have as an attribute may be a call of what an object holds, even if it is `index` of a
tuple: none stands in what these run, nor in what in-place operators, __setitem__ and setters run (L18).
"""

import ast
import unittest
from pathlib import Path

FOLDER = Path(__file__).resolve().parent.parent / "wishedwires"

CHANGERS = {"__setitem__", "__iadd__"}
FREE = {"__init__", "__call__", "__iter__"} | CHANGERS
STILL = {"__eq__", "__str__", "__repr__", "__len__"}
CHANGING = set("append clear extend insert pop remove reverse setdefault update sort add discard".split())
BUILTINS = set("""len range enumerate zip min max sum abs sorted reversed int str bool bytes list tuple dict set
isinstance ord repr any all divmod super TypeError""".split())
PURE_METHODS = set("""copy count endswith find get index isalnum isalpha isdigit islower isspace isupper items join keys
ljust lower lstrip partition replace rfind rjust rpartition rsplit rstrip split splitlines startswith strip upper values
zfill removeprefix removesuffix isascii""".split())
LIBRARY = {"gcd"}


def is_property(node):
    return any(isinstance(mark, ast.Name) and mark.id == "property" for mark in node.decorator_list)


def is_setter(node):
    return any(isinstance(mark, ast.Attribute) and mark.attr == "setter" for mark in node.decorator_list)


class Package:
    """The functions, methods and classes of a package, by their names, out of the texts of its files."""

    def __init__(self, texts):
        self.functions, self.methods, self.inits, self.bases = {}, {}, {}, {}
        self.roots, self.changers, self.setters, self.properties, self.attributes = [], [], set(), set(), set()
        for file, text in texts.items():
            tree = ast.parse(text)
            self.attributes |= {node.attr for node in ast.walk(tree)
                                if isinstance(node, ast.Attribute) and isinstance(node.ctx, ast.Store)}
            for node in tree.body:
                if isinstance(node, ast.FunctionDef):
                    self.functions.setdefault(node.name, []).append((f"{file} {node.name}", node))
                elif isinstance(node, ast.ClassDef):
                    self.take_class(file, node)
        self.generators = {node.name for found in [*self.functions.values(), *self.methods.values()] for _, node in found
                           if any(isinstance(inner, (ast.Yield, ast.YieldFrom)) for inner in ast.walk(node))}

    def take_class(self, file, told):
        self.bases[told.name] = [base.id for base in told.bases]
        self.attributes |= {target.id for node in told.body if isinstance(node, ast.Assign) for target in node.targets}
        for node in told.body:
            if not isinstance(node, ast.FunctionDef):
                continue
            place = (f"{file} {told.name}.{node.name}", node)
            special = node.name.startswith("__")
            if is_setter(node) or node.name in CHANGERS:
                self.changers.append(place)
            if is_setter(node):
                self.setters.add(node.name)
                continue
            if is_property(node):
                self.properties.add(node.name)
            if is_property(node) or (special and node.name not in FREE):
                self.roots.append(place)
            if node.name == "__init__":
                self.inits[told.name] = place
            elif not special and not is_property(node):
                self.methods.setdefault(node.name, []).append(place)

    def made_by(self, name):
        """The __init__ methods that run when an object of a class is made."""
        found = [self.inits[name]] if name in self.inits else []
        return found + [place for base in self.bases.get(name, []) for place in self.made_by(base)]

    def faults(self):
        found = [f"{root[0]} runs {place}: {why}" for root in self.roots for place, node in self.run_by(root)
                 for why in self.wrong_in(node)]
        return found + [f"{root[0]} runs {place}: {why}" for root in self.roots + self.changers
                        for place, node in self.run_by(root) for why in self.held_in(node)]

    def run_by(self, root):
        """A function or method, and all that it runs, each once."""
        seen, waiting = {}, [root]
        while waiting:
            place, node = waiting.pop()
            if place not in seen:
                seen[place] = True
                yield place, node
                waiting.extend(self.called_in(node))

    def held_in(self, node):
        """The calls of names that objects of the package have as attributes."""
        for call in [inner for inner in ast.walk(node) if isinstance(inner, ast.Call)]:
            name = getattr(call.func, "attr", getattr(call.func, "id", None))
            if name in self.attributes | self.properties:
                yield f"row {call.lineno}: calls {name}, the name of an attribute"

    def called_in(self, node):
        for call in [inner for inner in ast.walk(node) if isinstance(inner, ast.Call)]:
            if isinstance(call.func, ast.Name):
                yield from self.functions.get(call.func.id, [])
                yield from self.made_by(call.func.id)
            elif isinstance(call.func, ast.Attribute):
                yield from self.methods.get(call.func.attr, [])

    def wrong_in(self, node):
        own = own_objects(node)
        local = {inner.arg for inner in ast.walk(node) if isinstance(inner, ast.arg)} | {
            inner.id for inner in ast.walk(node) if isinstance(inner, ast.Name) and isinstance(inner.ctx, ast.Store)}
        for inner in ast.walk(node):
            if isinstance(inner, (ast.Yield, ast.YieldFrom)):
                yield "is a generator"
            if isinstance(inner, (ast.AugAssign, ast.Delete, ast.Nonlocal, ast.Global)):
                yield f"row {inner.lineno}: += or del"
            if isinstance(inner, ast.Attribute) and isinstance(inner.ctx, ast.Store):
                if node.name != "__init__" or not isinstance(inner.value, ast.Name) or inner.value.id != "self":
                    yield f"assigns {inner.attr}"
                if inner.attr in self.setters:
                    yield f"assigns {inner.attr}, a property with a setter"
            if isinstance(inner, ast.Subscript) and isinstance(inner.ctx, ast.Store):
                if not isinstance(inner.value, ast.Name) or inner.value.id not in own:
                    yield "assigns an item"
            if isinstance(inner, ast.Call):
                yield from self.wrong_call(inner, own, local)
            if node.name in STILL and isinstance(inner, ast.Name) and isinstance(inner.ctx, ast.Store):
                if not any(inner in ast.walk(loop) for loop in ast.walk(node) if isinstance(loop, ast.comprehension)):
                    yield f"assigns {inner.id}"

    def wrong_call(self, call, own, local):
        if isinstance(call.func, ast.Name):
            name = call.func.id
            if name in self.generators:
                yield f"goes over {name}"
            known = name in self.functions or name in self.bases or name in BUILTINS | LIBRARY
            if name in local or not known:
                yield f"calls {name}"
            return
        name = call.func.attr if isinstance(call.func, ast.Attribute) else "what it holds"
        if name in self.generators:
            yield f"goes over {name}"
        elif name in CHANGING:
            if not isinstance(call.func.value, ast.Name) or call.func.value.id not in own:
                yield f"calls {name}"
        elif name not in self.methods and name not in PURE_METHODS and name != "__init__":
            yield f"calls {name}"


def own_objects(node):
    """The local names that are assigned nothing but new lists and dicts."""
    created, other = set(), set()
    for inner in ast.walk(node):
        if isinstance(inner, ast.Assign):
            value = inner.value
            fresh = isinstance(value, (ast.List, ast.Dict, ast.ListComp)) or (
                isinstance(value, ast.Call) and isinstance(value.func, ast.Name)
                and value.func.id in ("list", "dict", "sorted"))
            for target in inner.targets:
                if isinstance(target, ast.Name):
                    (created if fresh else other).add(target.id)
        if isinstance(inner, ast.arg):
            other.add(inner.arg)
    return created - other


def package():
    return {path.name: path.read_text() for path in sorted(FOLDER.glob("*.py"))}


class PurityTest(unittest.TestCase):
    def test_package(self):
        told = Package(package())
        self.assertGreater(len(told.roots), 40)
        self.assertLessEqual({"value", "nets"}, told.setters)
        self.assertEqual(told.faults(), [])

    def test_no_attribute_has_the_name_of_a_property(self):
        told = Package(package())
        for file, text in package().items():
            for node in ast.walk(ast.parse(text)):
                if isinstance(node, ast.Attribute) and isinstance(node.ctx, ast.Store):
                    self.assertNotIn(node.attr, told.setters | told.properties, (file, node.lineno))

    def test_what_it_finds(self):
        head = "class A:\n    def __init__(self):\n        self.a = 1\n    def rows(self):\n        yield 1\n"
        for text in ("    def __add__(self, other):\n        return list(self.rows())\n",
                     "    def __add__(self, other):\n        return told(self)\ndef told(a):\n    return [b for b in a.rows()]\n",
                     "    def __add__(self, other):\n        self.a = 2\n",
                     "    def __add__(self, other):\n        return B(1)\nclass B:\n    def __init__(self, c):\n"
                     "        self.c = c\nclass C:\n    @property\n    def c(self):\n        return 1\n    @c.setter\n"
                     "    def c(self, value):\n        self._c = value\n",
                     "    def __add__(self, other):\n        other.append(1)\n",
                     "    def __add__(self, other):\n        other[1] = 1\n",
                     "    def __add__(self, other):\n        return other(1)\n",
                     "    def __add__(self, other):\n        return self.a(1)\n",
                     "    @property\n    def told(self):\n        self.a += 1\n",
                     "    def __eq__(self, other):\n        b = 1\n        return b\n"):
            self.assertNotEqual(Package({"x.py": head + text}).faults(), [], text)
        fine = "    def __add__(self, other):\n        b = []\n        b.append(A())\n        b[0] = len(b)\n        return b\n"
        self.assertEqual(Package({"x.py": head + fine}).faults(), [])

    def test_what_it_finds_of_names_that_objects_have(self):
        kept = "class B:\n    def __init__(self):\n        self.index = 1\n"
        valued = "class B:\n    find = 1\n"
        property_too = "class B:\n    @property\n    def index(self):\n        return 1\n"
        told = "def told(x):\n    return (1, 2).index(x)\n"
        for text in ("    def __getitem__(self, at):\n        return self.at(at)\n"
                     "    def at(self, at):\n        return (1, 2).index(at)\n",
                     "    def __getitem__(self, at):\n        return told(at)\n" + told,
                     "    def __getitem__(self, at):\n        return index(at)\ndef index(x):\n    return x\n",
                     "    def __len__(self):\n        return len([1].index(1))\n",
                     "    def __setitem__(self, at, worth):\n        self.x[told(at)] = worth\n" + told,
                     "    def __iadd__(self, other):\n        self.x = told(other)\n        return self\n" + told,
                     "    @property\n    def x(self):\n        return told(1)\n" + told,
                     "    @property\n    def x(self):\n        return 1\n"
                     "    @x.setter\n    def x(self, value):\n        self.y = told(value)\n" + told):
            head = "class A:\n"
            self.assertEqual(Package({"x.py": head + text}).faults(), [], text)
            for other in (kept, property_too):
                faults = Package({"x.py": head + text, "y.py": other}).faults()
                self.assertTrue(any(fault.endswith("calls index, the name of an attribute") for fault in faults), text)
        finds = "class A:\n    def __contains__(self, x):\n        return x.find(1) == 0\n"
        self.assertEqual(Package({"x.py": finds}).faults(), [])
        self.assertNotEqual(Package({"x.py": finds, "y.py": valued}).faults(), [])
        plain = "class A:\n    def told(self, x):\n        return (1, 2).index(x)\n"
        self.assertEqual(Package({"x.py": plain, "y.py": kept}).faults(), [])
