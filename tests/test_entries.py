"""Point 12: items."""

from itertools import permutations, product

from wishedwires.entries import Item
from wishedwires.errors import InvalidForm, InvalidKind, InvalidName, InvalidPins, NotPositive, UnknownName
from wishedwires.expressions import Leaf
from wishedwires.kinds import DirectedKind, JoiningKind, PathKind, PinKind
from wishedwires.ratios import Ratio
from tests.helper import Case, NAMES, ODD, WRONG_NAMES

RES = JoiningKind("res", row="sum", side="inverse")
SWITCH = JoiningKind("sw", "g", row="sum")
DIODE = DirectedKind("dio")
GATED = DirectedKind("gated", "g")
AMP = PinKind("amp", "p", "q", "o", swaps=(("p", "q"),))
SIX = PinKind("six", "u", "v", "w", "x", "y", "z", swaps=(("u", "v", "w"), ("y", "z")))

EXPRESSIONS = [Leaf(RES, 1), Leaf(RES, 2), Leaf(DIODE, 1), Leaf(DIODE, 1, turn=-1), Leaf(SWITCH, 1, "x"), Leaf(SWITCH, 1, "y"),
               Leaf(DIODE, 1) & Leaf(RES, 1), Leaf(DIODE, 1, turn=-1) & Leaf(RES, 1), Leaf(DIODE, 1) & Leaf(DIODE, 1, turn=-1),
               Leaf(DIODE, 1) & Leaf(DIODE, 2, turn=-1), Leaf(DIODE, 2) & Leaf(DIODE, 1, turn=-1), Leaf(DIODE, 1) | Leaf(DIODE, 2),
               Leaf(GATED, 1, "x") & Leaf(GATED, 1, "y", turn=-1), Leaf(GATED, 1, "y") & Leaf(GATED, 1, "x", turn=-1)]
NETS = ("x", "y", "z")
WRONG_PART_NAMES = (*[value for value in ODD if value not in (["a"], ("a",))], "ab", 3, ["t", "t"], ("t", "u", "t"), ["t", "T"],
                    [3], ["t", None], {"t": "u"}, [["t"]])


def writings(item):
    """Both ways of writing a branch."""
    first, second = item.ends
    return {(item.expression.key, first, second), ((-item.expression).key, second, first)}


class BranchTest(Case):
    def test_attributes(self):
        expression = Leaf(SWITCH, 2, "g1") | Leaf(RES, 3)
        item = Item.branch(expression, "x", "u/y", ["t2", "t10", "s/t"])
        self.assertEqual([item.expression, item.kind, item.is_branch], [expression, None, True])
        self.assertEqual([set(item.ends), item.slots], [{"x", "u/y"}, (*item.ends, "g1")])
        self.assertEqual([item.worths, item.names, item.id], [expression.worths, ("s/t", "t10", "t2"), "s/t"])
        self.assertEqual([len(item), type(item.worths[0])], [3, Ratio])

    def test_from_either_end(self):
        for expression in EXPRESSIONS:
            for first, second in product(NETS, NETS):
                one = Item.branch(expression, first, second, ["t"])
                other = Item.branch(-expression, second, first, ("u",))
                self.assertEqual([one, one.key, one.shape], [other, other.key, other.shape])
                self.assertEqual([one.expression, one.ends, one.slots, one.worths],
                                 [other.expression, other.ends, other.slots, other.worths])
                self.assertEqual(one.slots, one.ends + one.expression.control_nets)
                self.assertEqual(one.worths, one.expression.worths)
                self.assertIn((one.expression.key, *one.ends), {(expression.key, first, second), ((-expression).key, second, first)})

    def test_equal_exactly_if_a_writing_is(self):
        items = [Item.branch(expression, *nets, ["t"]) for expression in EXPRESSIONS for nets in product(NETS, NETS)]
        for one, other in product(items, items):
            alike = writings(one) == writings(other)
            self.assertEqual([one == other, one.key == other.key, one != other], [alike, alike, not alike])
            self.assertEqual(one < other, one.key < other.key)
            shapes = {one.expression.shape, (-one.expression).shape} == {other.expression.shape, (-other.expression).shape}
            self.assertEqual(one.shape == other.shape, shapes)

    def test_along(self):
        for expression in EXPRESSIONS:
            for first, second in permutations(NETS, 2):
                item = Item.branch(expression, first, second, ["t"])
                self.assertEqual([item.along(first), item.along(second)], [expression, -expression])
            loop = Item.branch(expression, "x", "x", ["t"])
            self.assertEqual(loop.along("x"), loop.expression)
            self.assertEqual(loop, Item.branch(-expression, "x", "x", ["t"]))

    def test_along_no_end(self):
        item = Item.branch(Leaf(SWITCH, 1, "g"), "x", "y", ["t"])
        for item in (item, Item.single(AMP, 1, ("x", "y", "g"), ["t"])):
            self.fails(UnknownName, "g", item.along, "g")

    def test_wrong_arguments(self):
        leaf = Leaf(RES, 1)
        for wrong in (*ODD, RES, "res", 3):
            self.fails(InvalidForm, wrong, Item.branch, wrong, "X", "Y", 3)
        for wrong in WRONG_NAMES:
            self.fails(InvalidName, wrong, Item.branch, leaf, wrong, "Y", 3)
            self.fails(InvalidName, wrong, Item.branch, leaf, "x", wrong, 3)
        for wrong in WRONG_PART_NAMES:
            self.fails(InvalidForm, wrong, Item.branch, leaf, "x", "y", wrong)
        for wrong in WRONG_NAMES:
            names = ["t", wrong]
            self.fails(InvalidForm, names, Item.branch, leaf, "x", "y", names)


class SingleTest(Case):
    def test_attributes(self):
        names = ["t2", "t1"]
        item = Item.single(AMP, 3, ["y", "x", "u/z"], names)
        names.append("T")
        self.assertEqual([item.expression, item.kind, item.is_branch, item.ends], [None, AMP, False, ()])
        self.assertEqual([set(item.slots[:2]), item.slots[2]], [{"x", "y"}, "u/z"])
        self.assertEqual([item.worths, type(item.worths[0]), len(item)], [(3,), Ratio, 3])
        self.assertEqual([item.names, item.id], [("t1", "t2"), "t1"])

    def test_exchanges(self):
        for kind, nets in ((AMP, ("x", "y", "z")), (AMP, ("x", "x", "z")), (SIX, ("a", "b", "a", "c", "e", "d"))):
            item = Item.single(kind, Ratio(1, 2), nets, ["t"])
            same = {tuple(nets[index] for index in order) for order in kind.orders}
            self.assertIn(item.slots, same)
            for order in permutations(range(len(nets))):
                told = tuple(nets[index] for index in order)
                other = Item.single(kind, Ratio(1, 2), list(told), ["u"])
                self.assertEqual([item == other, item.key == other.key, item.slots == other.slots], [told in same] * 3)
                self.assertEqual(item.shape, other.shape)

    def test_unlike(self):
        item = Item.single(AMP, 1, ("x", "y", "z"), ["t"])
        other = Item.single(AMP, 2, ("x", "y", "z"), ["t"])
        plain = Item.single(PinKind("amp", "p", "q", "o"), 1, ("x", "y", "z"), ["t"])
        self.assertEqual([item == other, item.shape == other.shape], [False, True])
        self.assertEqual([item == plain, item.shape == plain.shape], [False, False])

    def test_wrong_arguments(self):
        for wrong in (*ODD, RES, PathKind("k"), "amp", 3):
            self.fails(InvalidKind, wrong, Item.single, wrong, 0, 3, 3)
        for wrong in (*ODD, "1", 0, -1, Ratio(0)):
            self.fails(NotPositive, wrong, Item.single, AMP, wrong, 3, 3)
        for wrong in (*ODD, "xyz", 3, ["x", "y"], ("x", "y", "z", "z"), {"x": "x", "y": "y", "z": "z"}):
            self.fails(InvalidPins, wrong, Item.single, AMP, 1, wrong, 3)
        for wrong in WRONG_NAMES:
            nets = ["x", "y", wrong]
            self.fails(InvalidPins, nets, Item.single, AMP, 1, nets, 3)
        for wrong in WRONG_PART_NAMES:
            self.fails(InvalidForm, wrong, Item.single, AMP, 1, ["x", "y", "z"], wrong)


class ItemTest(Case):
    def setUp(self):
        self.branch = Item.branch(Leaf(SWITCH, 2, "g") & Leaf(DIODE, 1), "x", "y", ["t", "u"])
        self.single = Item.single(AMP, 3, ("y", "x", "z"), NAMES)

    def test_names_play_no_part(self):
        self.assertEqual(self.branch, Item.branch(Leaf(SWITCH, 2, "g") & Leaf(DIODE, 1), "x", "y", ["v"]))
        self.assertEqual(self.single, Item.single(AMP, 3, ("x", "y", "z"), ["v"]))
        self.assertEqual(self.single.names, tuple(sorted(NAMES)))

    def test_mapped(self):
        moved = self.branch.mapped({"x": "y", "y": "x", "g": "h"})
        self.assertEqual(moved, Item.branch(Leaf(SWITCH, 2, "h") & Leaf(DIODE, 1), "y", "x", ["v"]))
        self.assertEqual([moved.names, moved == self.branch], [("t", "u"), False])
        self.assertEqual(self.branch.mapped({"x": "w", "y": "w"}).ends, ("w", "w"))
        moved = self.single.mapped({"x": "z", "y": "w"})
        self.assertEqual([moved, moved.names], [Item.single(AMP, 3, ["z", "w", "z"], ["v"]), self.single.names])
        for item in (self.branch, self.single):
            self.assertEqual([item.mapped({}), item.mapped({"none": "x", 3: "y"})], [item, item])

    def test_mapped_is_made_anew(self):
        expression = Leaf(SWITCH, 2, "g") & Leaf(SWITCH, 3, "h")
        item = Item.branch(expression, "x", "y", ["t", "u"])
        moved = item.mapped({"g": "h"})
        self.assertEqual([moved.expression, moved.slots, moved.names], [Leaf(SWITCH, 5, "h"), (*moved.ends, "h"), ("t", "u")])

    def test_mapped_one_to_one_and_back(self):
        there, back = {"x": "y", "y": "z", "z": "x"}, {"y": "x", "z": "y", "x": "z"}
        for expression in EXPRESSIONS:
            item = Item.branch(expression, "x", "z", ["t"])
            self.assertEqual(item.mapped(there), Item.branch(expression.mapped(there), "y", "x", ["t"]))
            self.assertEqual(item.mapped(there).mapped(back), item)
            self.assertEqual(item.mapped(there).shape, item.shape)

    def test_mapped_wrong(self):
        for item in (self.branch, self.single):
            for wrong in ([value for value in ODD if not isinstance(value, dict)] + ["x", 3]):
                self.fails(InvalidPins, wrong, item.mapped, wrong)
            for wrong in WRONG_NAMES:
                nets = {"w": wrong}
                self.fails(InvalidPins, nets, item.mapped, nets)

    def test_comparing(self):
        self.assertFalse(self.branch == self.single)
        self.assertEqual(self.branch < self.single, self.branch.key < self.single.key)
        for item in (self.branch, self.single):
            self.assertFalse(item < item)
            for wrong in (*ODD, "x", item.key, 3):
                self.assertFalse(item == wrong)
                self.fails(InvalidForm, wrong, lambda: item < wrong)
