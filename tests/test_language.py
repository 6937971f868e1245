"""What of LANGUAGE.md can be told from the files: sizes, characters, and the words and forms that may stand in them."""

import ast
import builtins
import re
import unittest
from pathlib import Path

FOLDER = Path(__file__).resolve().parent.parent / "wishedwires"
FILES = sorted(FOLDER.glob("*.py"))

BUILTINS = set("""len range enumerate zip min max sum abs sorted reversed int str bool bytes list tuple dict set
isinstance ord repr any all divmod map iter next Exception ValueError TypeError KeyError IndexError LookupError
ZeroDivisionError ArithmeticError OverflowError RuntimeError NotImplementedError NotImplemented property
staticmethod classmethod super""".split())
ITERATED = {"sorted", "min", "max", "sum", "any", "all"}
METHODS = set("""append clear copy count endswith extend find get index insert isalnum isalpha isdigit islower isspace
isupper items join keys ljust lower lstrip partition pop remove replace reverse rfind rjust rpartition rsplit rstrip
setdefault split splitlines startswith strip update upper values zfill bit_length title capitalize swapcase casefold
center removeprefix removesuffix isascii add discard""".split())
OPERATORS = set("""lt le gt ge ne add sub mul and or xor radd rsub rmul iadd neg invert abs bool contains getitem setitem
init eq repr str len call iter""".split())
LIBRARY = {"math": {"gcd", "lcm", "isqrt", "comb", "perm", "factorial"}, "heapq": {"heappush", "heappop", "heapify"}}
BARRED = set("""typing typing_extensions enum Enum IntEnum StrEnum Flag IntFlag Generic Protocol ABC ABCMeta namedtuple
NamedTuple TypedDict TYPE_CHECKING abstractmethod dataclass overload contextmanager metaclass Meta register mro
elements open input law""".split())
UNNAMED = set("""attrgetter breakpoint builtins compile copyright credits delattr dir eval exec exit gc getattr globals
hasattr help id importlib license locals methodcaller os quit setattr super type vars sys""".split())
STATEMENTS = (ast.Assign, ast.AugAssign, ast.If, ast.While, ast.For, ast.Return, ast.Break, ast.Continue, ast.Pass,
              ast.Raise, ast.Assert, ast.Delete, ast.Try, ast.Expr, ast.FunctionDef, ast.ClassDef, ast.ImportFrom)
AT_ONCE = {"zip", "enumerate", "reversed", "range", "map"}
VIEWS = {"items", "keys", "values"}
FRAMES = re.compile(r"^(f|tb|co|gi|cr)_[a-z]+$")

CLASSES = {
    "ratios": {"Ratio": "over parse __init__ __add__ __radd__ __sub__ __rsub__ __mul__ __rmul__ __neg__ __abs__ __eq__"
                        " __ne__ __lt__ __le__ __gt__ __ge__ __bool__ __str__ __repr__"},
    "rules": {"ValueRule": "__init__ __call__ all_of __eq__"},
    "kinds": {"Kind": "exchanges text DIRECTED __eq__", "PinKind": "__init__", "PathKind": "__init__",
              "DirectedKind": "", "JoiningKind": "__init__ rules", "DirectedJoiningKind": ""},
    "parts": {"Part": "__init__ value nets set_value set_nets __getitem__ __setitem__ seats __len__ copied moved __eq__"},
    "circuits": {"Circuit": "__init__ ports set_port drop_port __getitem__ __setitem__ take_out __contains__ __len__"
                            " part_names parts all_nets pins_at copied __eq__ __add__ __iadd__ __and__ __sub__"},
    "expressions": {"Expression": "__and__ __or__ __neg__ leaves __len__ __eq__ __lt__ __le__ mapped",
                    "Leaf": "__init__", "Row": "", "Bundle": ""},
    "entries": {"Item": "branch single __eq__ __lt__ along mapped __len__"},
    "forms": {"Form": "__init__ ports all_nets item_of __iter__ __len__ __contains__ __eq__"},
    "reducing": {"Reduction": "__init__ steps do finish form"},
    "matching": {"Matching": "__init__ __call__ id_of net_map id_map __mul__ __invert__ power __eq__ __len__ __iter__"
                             " identity"},
    "pricing": {"Prices": "__init__ lost surplus value junction change copied __eq__",
                "Pairing": "__init__ __setitem__ __getitem__ leave __contains__ __len__ paired __iter__ meetings kept wrong"
                           " lost_ids surplus_ids revalued price floor copied matching"},
    "exchanges": {"Exchanges": "__init__ __contains__ factors chain net_classes id_classes __len__ __iter__"},
    "mending": {"Board": "__init__ ports ids __contains__ __len__ slots_of worths_of do play undo circuit form"},
    "blocks": {"BlockKind": "__init__ exchanges text",
               "Book": "DEPTH PORTS __init__ __setitem__ __getitem__ __contains__ __len__ __iter__ block_names copied"
                       " __eq__ __add__ __iadd__ kind_of use uses depth_of size_of spread_of form_of total_of name_at"
                       " number_of part_of walk"},
    "classes": {"ClassKind": "__init__ exchanges __eq__"},
    "blockwise": {"BlockMatch": "__call__ back"},
    "editing": {"Session": "__init__ circuit form number_of do run undo __len__"},
    "desk": {"Desk": "__init__ say __len__"},
}
FUNCTIONS = {"reading": "format_circuit parse", "reducing": "reduced lets_trace",
             "colours": "first_colours next_colours rounds difference", "matching": "carried matchings matching alike",
             "refuting": "refutation lets_refutation lets_matching", "ways": "ways",
             "junctions": "greatest_pairs touching_set",
             "least": "weight least_differences floor_paper lets_floor", "mending": "laid mends cost",
             "classes": "class_form classing lets_classing", "blockwise": "match_books block_exchanges",
             "flat": "opened flat flat_alike", "opening": "openings least_openings lets_openings",
             "within": "places spots most_apart apart_paper lets_apart"}


def parents_of(tree):
    """Each node's parent."""
    return {child: node for node in ast.walk(tree) for child in ast.iter_child_nodes(node)}


def own_names():
    """Names of all methods, properties and generators that the package defines."""
    methods, properties, generators = set(), set(), set()
    for path in FILES:
        for node in ast.walk(ast.parse(path.read_text())):
            if not isinstance(node, ast.FunctionDef):
                continue
            methods.add(node.name)
            if any(isinstance(mark, ast.Name) and mark.id == "property" for mark in node.decorator_list):
                properties.add(node.name)
            if any(isinstance(inner, (ast.Yield, ast.YieldFrom)) for inner in ast.walk(node)):
                generators.add(node.name)
    return methods, properties, generators


def called(node):
    """The name that is called, as a function or as a method."""
    if not isinstance(node, ast.Call):
        return None
    if isinstance(node.func, ast.Name):
        return node.func.id
    return node.func.attr if isinstance(node.func, ast.Attribute) else None


def plainly_sorted(node):
    """Whether a call of sorted, min or max takes what is plainly numbers or strings, or has a key that gives such."""
    for keyword in node.keywords:
        if keyword.arg == "key":
            return isinstance(keyword.value, ast.Name) and keyword.value.id in ("str", "len", "int")
    if len(node.args) > 1:
        return any(plain(value) for value in node.args)
    return plain_row(node.args[0])


def plain_row(node):
    """Whether a row of values is one of those that L5 Operators lists: so set(..), but no sets joined by signs."""
    if isinstance(node, ast.List):
        return all(plain(value) for value in node.elts)
    if isinstance(node, ast.ListComp):
        return plain(node.elt)
    if isinstance(node, ast.Call) and isinstance(node.func, ast.Attribute):
        return node.func.attr == "split"
    return called(node) in ("range", "set")


def plain(node):
    """Whether a value is plainly a number or a string."""
    if isinstance(node, (ast.Constant, ast.JoinedStr)):
        return True
    if isinstance(node, ast.BinOp):
        return isinstance(node.op, ast.Add) and plain_number(node.left) and plain_number(node.right)
    return plain_number(node) or (isinstance(getattr(node, "func", None), ast.Name) and called(node) in ("str", "repr"))


def plain_number(node):
    """Whether a value is plainly a number."""
    if isinstance(node, ast.Constant):
        return isinstance(node.value, int)
    if isinstance(node, ast.BinOp):
        return isinstance(node.op, ast.Add) and plain_number(node.left) and plain_number(node.right)
    return isinstance(node, ast.Call) and isinstance(node.func, ast.Name) and node.func.id in ("len", "int", "ord")


class LanguageTest(unittest.TestCase):
    def each_file(self):
        for path in FILES:
            text = path.read_text()
            yield path, text, ast.parse(text)

    def each_node(self):
        for path, _, tree in self.each_file():
            parents = parents_of(tree)
            for node in ast.walk(tree):
                yield f"{path.name}:{getattr(node, 'lineno', 0)}", node, parents

    def test_folder(self):
        for path in FOLDER.iterdir():
            self.assertTrue(path.suffix == ".py" or path.name == "__pycache__", path)
        self.assertIn(FOLDER / "__init__.py", FILES)

    def test_sizes(self):
        for path, text, tree in self.each_file():
            lines = text.split("\n")
            self.assertLessEqual(len(lines) - 1, 399, path)
            self.assertLessEqual(max(len(line) for line in lines), 120, path)
            for node in ast.walk(tree):
                if isinstance(node, ast.FunctionDef):
                    self.assertLessEqual(node.end_lineno - node.lineno + 1, 40, (path, node.name))

    def test_characters(self):
        for path, text, _ in self.each_file():
            wrong = [sign for sign in text if sign != "\n" and not " " <= sign <= "~"]
            self.assertEqual(wrong, [], path)

    def test_imports(self):
        used = {}
        for path, _, tree in self.each_file():
            used[path.stem] = []
            for node in tree.body:
                if not isinstance(node, ast.ImportFrom):
                    continue
                self.assertEqual(node.level, 0)
                names = {alias.name for alias in node.names}
                self.assertTrue(all(alias.asname is None for alias in node.names))
                if node.module in LIBRARY:
                    self.assertLessEqual(names, LIBRARY[node.module])
                    continue
                package, _, module = node.module.partition(".")
                self.assertEqual(package, "wishedwires")
                tree_there = ast.parse((FOLDER / f"{module}.py").read_text())
                there = {one.name for one in tree_there.body if isinstance(one, (ast.FunctionDef, ast.ClassDef))}
                there |= {one.targets[0].id for one in tree_there.body if isinstance(one, ast.Assign)}
                self.assertLessEqual(names, there)
                used[path.stem].append(module)
        while used:
            free = [name for name in used if not any(module in used for module in used[name])]
            self.assertTrue(free, f"files import from each other: {sorted(used)}")
            used = {name: used[name] for name in used if name not in free}

    def test_module_level(self):
        for path, _, tree in self.each_file():
            for at, node in enumerate(tree.body):
                if isinstance(node, ast.Expr):
                    self.assertTrue(at == 0 and isinstance(node.value.value, str), path)
                else:
                    self.assertIsInstance(node, (ast.ImportFrom, ast.FunctionDef, ast.ClassDef, ast.Assign), path)

    def test_statements(self):
        for where, node, _ in self.each_node():
            if isinstance(node, ast.stmt):
                self.assertIsInstance(node, STATEMENTS, where)
            self.assertNotIsInstance(node, (ast.Div, ast.MatMult, ast.Await, ast.Lambda), where)
            if isinstance(node, ast.Constant):
                self.assertNotIsInstance(node.value, (float, complex, type(...)), where)
            if isinstance(node, ast.Try):
                self.assertEqual(node.finalbody, [], where)

    def test_names(self):
        methods, _, _ = own_names()
        for path, _, tree in self.each_file():
            bound = {node.id for node in ast.walk(tree) if isinstance(node, ast.Name) and not isinstance(node.ctx, ast.Load)}
            bound |= {node.arg for node in ast.walk(tree) if isinstance(node, ast.arg)}
            bound |= {node.name for node in ast.walk(tree) if isinstance(node, ast.ExceptHandler) and node.name}
            top = {node.name for node in tree.body if isinstance(node, (ast.FunctionDef, ast.ClassDef))}
            brought = {alias.name for node in tree.body if isinstance(node, ast.ImportFrom) for alias in node.names}
            classes = {node.name for node in tree.body if isinstance(node, ast.ClassDef)}
            self.assertEqual((bound | top) & (set(dir(builtins)) - {"_"} | UNNAMED), set(), path)
            self.assertEqual(bound & (brought | classes), set(), path)
            read = {node.id for node in ast.walk(tree) if isinstance(node, ast.Name)}
            self.assertEqual(read - bound - top - brought - BUILTINS, set(), path)
            for name in bound | top | methods:
                special = name.startswith("__") and name.endswith("__") and name[2:-2] in OPERATORS
                self.assertTrue(special or re.match(r"^(_|_?[A-Za-z][A-Za-z0-9_]*)$", name), name)

    def test_words(self):
        for path, text, tree in self.each_file():
            for word in re.findall(r"[A-Za-z_]+", text):
                self.assertNotIn(word, BARRED, path)
                self.assertFalse(word.startswith(("_wall", "_pe_", "_dcw_", "_enum_", "_cm_", "_twin_re_", "_lay_", "_law_",
                                                  "_stub_", "_sre", "_record", "_cold", "_tuplegetter", "_outside",
                                                  "_written_out", "_member_names")), (path, word))
            for node in ast.walk(tree):
                name = getattr(node, "attr", getattr(node, "id", getattr(node, "arg", None)))
                if isinstance(name, str):
                    self.assertIsNone(FRAMES.match(name), name)
                if isinstance(node, ast.Constant) and isinstance(node.value, str):
                    self.assertNotIn("%", node.value)
                    self.assertFalse(node.value.endswith(("._", ".__")), path)
            self.assertEqual([line for line in text.split("\n") if re.search(r"\\[^nt\\'\"]", line)], [], path)

    def test_methods(self):
        methods, properties, _ = own_names()
        attributes = set()
        for _, node, _ in self.each_node():
            if isinstance(node, ast.Attribute) and isinstance(node.ctx, ast.Store):
                attributes.add(node.attr)
        self.assertEqual(properties & attributes, set())
        for where, node, parents in self.each_node():
            if isinstance(node, ast.Call) and isinstance(node.func, ast.Attribute):
                known = node.func.attr in METHODS | methods
                self.assertTrue(known, (where, node.func.attr))
            elif isinstance(node, ast.Attribute) and called(parents.get(node)) != node.attr:
                known = node.attr in attributes | properties or node.attr.isupper() or node.attr == "setter"
                self.assertTrue(known, (where, node.attr))

    def test_what_is_sorted(self):
        for where, node, _ in self.each_node():
            name = called(node)
            if isinstance(node, ast.Call) and isinstance(node.func, ast.Name) and name in ITERATED:
                self.assertFalse(any(isinstance(value, ast.GeneratorExp) for value in node.args), where)
                if name in ("sorted", "min", "max"):
                    self.assertTrue(plainly_sorted(node), where)
            self.assertNotEqual(name, "sort", where)

    def test_which_sorting_is_plain(self):
        for told in ("sorted(set(xs))", "sorted(set([(1, x) for x in xs]))", "sorted(set(list(xs) + ys))", "sorted(xs, key=str)",
                     "sorted([len(x) for x in xs])", "sorted([f'{x}', 'a', str(x)])", "sorted(text.split())",
                     "min(xs, key=len)", "min(range(3))", "max(x, 0)", "max(len(x), y.depth)", "max(x, len(y) + 1)",
                     "max([len(x) + int(y) for x in xs], default=0)"):
            self.assertTrue(plainly_sorted(ast.parse(told).body[0].value), told)
        for told in ("sorted(set(xs) ^ set(ys))", "sorted(set(list(xs)) - set(list(ys)))", "sorted(set(xs) & set(ys))",
                     "sorted(set(xs) | {'a'})", "sorted({x for x in xs})", "sorted({'a', x})", "sorted(xs)", "min(xs)",
                     "sorted([x for x in xs])", "sorted([x, 1])", "sorted(list(xs))", "sorted(xs, key=told)", "max(x, y)",
                     "sorted(x.set())", "max(x, y.len())", "max(x, len(y) - z)", "max(x, y + 1)", "min((1, x))",
                     "sorted([set(x) for x in xs])", "sorted(box.rows)"):
            self.assertFalse(plainly_sorted(ast.parse(told).body[0].value), told)

    def test_classes_with_an_order(self):
        found = []
        for where, node, _ in self.each_node():
            if isinstance(node, ast.ClassDef):
                names = {one.name for one in node.body if isinstance(one, ast.FunctionDef)}
                if names & {"__lt__", "__le__", "__gt__", "__ge__"}:
                    found.append(node.name)
                    self.assertIn("__eq__", names, where)
        self.assertLessEqual({"Ratio", "Expression", "Item"}, set(found))

    def test_iterated_at_once(self):
        _, _, generators = own_names()
        takers = {"list", "tuple", "dict", "sorted", "sum", "any", "all", "enumerate", "zip"}
        for where, node, parents in self.each_node():
            if not isinstance(node, ast.Call):
                continue
            name, parent = called(node), parents[node]
            if name == "range" and (isinstance(parent, ast.Compare) or called(parent) in ("len", "reversed")):
                continue
            if name in generators | AT_ONCE or (name in VIEWS and isinstance(node.func, ast.Attribute)):
                looped = isinstance(parent, (ast.For, ast.comprehension)) and parent.iter is node
                self.assertTrue(looped or called(parent) in takers or isinstance(parent, ast.YieldFrom), (where, name))

    def test_sets(self):
        for where, node, parents in self.each_node():
            if called(node) == "set" or isinstance(node, (ast.Set, ast.SetComp)):
                parent = parents[node]
                while isinstance(parent, ast.BinOp):
                    parent = parents[parent]
                plain_place = called(parent) in ("sorted", "len") or isinstance(parent, (ast.Compare, ast.Assign))
                self.assertTrue(plain_place, where)

    def test_classes(self):
        for where, node, _ in self.each_node():
            if isinstance(node, (ast.FunctionDef, ast.ClassDef)):
                for mark in node.decorator_list:
                    plain_mark = isinstance(mark, ast.Name) and mark.id in ("property", "staticmethod", "classmethod")
                    self.assertTrue(plain_mark or mark.attr == "setter", where)
            if isinstance(node, ast.ClassDef):
                names = {one.name for one in node.body if isinstance(one, ast.FunctionDef)}
                if "__getitem__" in names:
                    self.assertIn("__iter__", names, where)
            if isinstance(node, ast.ExceptHandler):
                self.assertIsNotNone(node.type, where)

    def test_stars(self):
        _, properties, _ = own_names()
        for where, node, _ in self.each_node():
            if isinstance(node, ast.Call):
                for value in [one.value for one in node.args if isinstance(one, ast.Starred)] + [
                        one.value for one in node.keywords if one.arg is None]:
                    told = value.elts if isinstance(value, (ast.List, ast.Tuple)) else [value]
                    for one in told:
                        read = isinstance(one, ast.Attribute) and isinstance(one.value, ast.Name)
                        self.assertTrue(isinstance(one, (ast.Name, ast.Constant)) or read, where)
                        self.assertNotIn(getattr(one, "attr", ""), properties, where)

    def test_iterators(self):
        for where, node, _ in self.each_node():
            if isinstance(node, ast.FunctionDef) and node.name == "__iter__":
                told = ast.unparse(node.body[-1])
                self.assertEqual(len(node.body), 1, where)
                self.assertRegex(told, r"^(return iter\(self\.[a-z_]+\)|raise TypeError\('[a-z ]+'\))$", where)

    def test_generator_names(self):
        _, _, generators = own_names()
        for where, node, _ in self.each_node():
            if isinstance(node, ast.FunctionDef) and node.name in generators:
                self.assertTrue(any(isinstance(inner, (ast.Yield, ast.YieldFrom)) for inner in ast.walk(node)), where)
        self.assertEqual(generators & METHODS, set())

    def test_interface(self):
        for path, _, tree in self.each_file():
            there = {node.name: node for node in tree.body if isinstance(node, (ast.FunctionDef, ast.ClassDef))}
            for name in FUNCTIONS.get(path.stem, "").split():
                self.assertIsInstance(there[name], ast.FunctionDef)
            for name, members in CLASSES.get(path.stem, {}).items():
                body = there[name].body
                defined = {one.name for one in body if isinstance(one, ast.FunctionDef)}
                defined |= {one.targets[0].id for one in body if isinstance(one, ast.Assign)}
                self.assertLessEqual(set(members.split()), defined, name)
