"""Point 11: expressions, held against trees that are joined, opened and sorted by the tests themselves."""

from fractions import Fraction
from functools import reduce
from itertools import permutations, product

from wishedwires.errors import InvalidForm, InvalidKind, InvalidNumber, InvalidPins, NotPositive
from wishedwires.expressions import Bundle, Expression, Leaf, Row
from wishedwires.kinds import DirectedJoiningKind, DirectedKind, JoiningKind, PathKind, PinKind
from wishedwires.ratios import Ratio
from tests.helper import Case, ODD, WRONG_NAMES

RES = JoiningKind("res", row="sum", side="inverse")
CAP = JoiningKind("cap", side="sum")
PLAIN = PathKind("plain")
SWITCH = PathKind("sw", "g")
GATED = JoiningKind("gated", "g", row="sum", side="sum")
DIODE = DirectedKind("dio")
LED = DirectedJoiningKind("led", row="sum")

# What the trees consist of: (kind, value, controls, turn).
SEEDS = [(RES, 1, (), 1), (RES, 2, (), 1), (CAP, 1, (), 1), (DIODE, 1, (), 1), (LED, 2, (), 1), (LED, 2, (), -1),
         (GATED, 1, ("x",), 1), (GATED, 3, ("y",), 1)]


def joined(way, kind, values):
    rule = kind.rules()[way].word
    return sum(values) if rule == "sum" else 1 / sum(1 / value for value in values)


def composed(way, members):
    """The normal tree of some normal trees in a row or side by side."""
    opened = [one for member in members for one in (member[1] if member[0] == way else [member])]
    values = {}
    for one in opened:
        ruled = one[0] == "leaf" and isinstance(one[1], JoiningKind) and way in one[1].rules()
        if ruled:
            values.setdefault((one[1].text, one[3], one[4]), []).append(one)
    left = [one for one in opened if not any(one in group for group in values.values())]
    for group in values.values():
        _, kind, _, controls, turn = group[0]
        left.append(("leaf", kind, joined(way, kind, [one[2] for one in group]), controls, turn))
    return left[0] if len(left) == 1 else (way, sorted(left, key=told))


def told(tree):
    """A text of a normal tree, for sorting and comparing."""
    if tree[0] == "leaf":
        return f"leaf {tree[1].text} {tree[2]} {tree[3]} {tree[4]}"
    return f"{tree[0]} {[told(one) for one in tree[1]]}"


def bare(tree):
    """The same without values and control nets."""
    if tree[0] == "leaf":
        return f"leaf {tree[1].text} {tree[4]}"
    return f"{tree[0]} {sorted(bare(one) for one in tree[1])}"


def seeded(seed):
    kind, value, controls, turn = seed
    expression = Leaf(kind, value, *controls, turn=turn)
    return expression, ("leaf", kind, Fraction(value), controls, turn if kind.DIRECTED else 0)


def both(way, one, other):
    expression = one[0] & other[0] if way == "row" else one[0] | other[0]
    return expression, composed(way, [one[1], other[1]])


def pool():
    """Pairs of an expression and its normal tree, of up to four seeds each."""
    ones = [seeded(seed) for seed in SEEDS]
    twos = [both(way, one, other) for way in ("row", "side") for one in ones for other in ones]
    threes = [both(way, two, ones[at % len(ones)]) for way in ("row", "side") for at, two in enumerate(twos)]
    threes += [both(way, ones[at % 3], two) for way in ("row", "side") for at, two in enumerate(twos)]
    fours = [both(way, two, twos[(at * 7 + 3) % len(twos)]) for way in ("row", "side") for at, two in enumerate(twos)]
    return ones + twos + threes + fours


class LeafTest(Case):
    def test_attributes(self):
        leaf = Leaf(SWITCH, 3, "u/x")
        self.assertEqual([leaf.kind, leaf.value, leaf.controls, leaf.turn], [SWITCH, Ratio(3), ("u/x",), 0])
        self.assertEqual([type(leaf.value), leaf.control_nets, leaf.worths], [Ratio, ("u/x",), (Ratio(3),)])
        self.assertEqual([len(leaf), list(leaf.leaves())], [1, [leaf]])
        self.assertIsInstance(leaf, Expression)

    def test_turns(self):
        self.assertEqual([Leaf(DIODE, 1).turn, Leaf(DIODE, 1, turn=-1).turn, (-Leaf(DIODE, 1)).turn], [1, -1, -1])
        self.assertEqual(-Leaf(DIODE, 1, turn=-1), Leaf(DIODE, 1))
        self.assertNotEqual(Leaf(DIODE, 1, turn=-1), Leaf(DIODE, 1))
        self.assertEqual([Leaf(RES, 1, turn=-1).turn, (-Leaf(RES, 1)).turn], [0, 0])
        self.assertEqual(Leaf(RES, 1, turn=-1), Leaf(RES, 1))

    def test_wrong_arguments(self):
        for wrong in (*ODD, "res", 3, PinKind("one", "m"), PathKind):
            self.fails(InvalidKind, wrong, Leaf, wrong, 0, "X", turn=2)
        for wrong in (*ODD, "1", 0, -1, Ratio(0)):
            self.fails(NotPositive, wrong, Leaf, SWITCH, wrong, "X", turn=2)
        for controls in ((), ("x", "y")):
            self.fails(InvalidPins, controls, Leaf, SWITCH, 1, *controls, turn=2)
        for wrong in WRONG_NAMES:
            self.fails(InvalidPins, (wrong,), Leaf, SWITCH, 1, wrong, turn=2)
        for wrong in (*ODD, 0, 2, -2, "1", Ratio(1)):
            self.fails(InvalidNumber, wrong, Leaf, SWITCH, 1, "x", turn=wrong)
            self.fails(InvalidNumber, wrong, Leaf, DIODE, 1, turn=wrong)


class JoiningTest(Case):
    def test_leaves_that_join(self):
        self.assertEqual(Leaf(RES, 2) & Leaf(RES, 3), Leaf(RES, 5))
        self.assertEqual(Leaf(RES, 2) | Leaf(RES, 3), Leaf(RES, Ratio(6, 5)))
        self.assertEqual(Leaf(GATED, 2, "x") & Leaf(GATED, 3, "x"), Leaf(GATED, 5, "x"))
        self.assertEqual(Leaf(LED, 2, turn=-1) & Leaf(LED, 3, turn=-1), Leaf(LED, 5, turn=-1))
        self.assertIsInstance(Leaf(RES, 2) & Leaf(RES, 3), Leaf)

    def test_leaves_that_do_not_join(self):
        for one, other in ((Leaf(CAP, 2), Leaf(CAP, 3)), (Leaf(GATED, 2, "x"), Leaf(GATED, 2, "y")),
                           (Leaf(LED, 2), Leaf(LED, 2, turn=-1)), (Leaf(RES, 2), Leaf(CAP, 2)), (Leaf(PLAIN, 1), Leaf(PLAIN, 1)),
                           (Leaf(RES, 2), Leaf(JoiningKind("res", row="sum"), 2))):
            row = one & other
            self.assertIsInstance(row, Row)
            self.assertEqual([len(row.members), len(row)], [2, 2])
        self.assertIsInstance(Leaf(LED, 2) | Leaf(LED, 2), Bundle)

    def test_across_other_members(self):
        row = Leaf(RES, 1) & Leaf(PLAIN, 1) & Leaf(RES, 2)
        self.assertEqual(row, Leaf(PLAIN, 1) & Leaf(RES, 3))
        bundle = Leaf(RES, 1) | Leaf(CAP, 1) & Leaf(PLAIN, 1) | Leaf(RES, 1)
        self.assertEqual(bundle, Leaf(RES, Ratio(1, 2)) | Leaf(PLAIN, 1) & Leaf(CAP, 1))

    def test_opened(self):
        a, b, c, d = (Leaf(PathKind(name), 1) for name in "abcd")
        row, bundle = (a & b) & (c & d), (a | b) | (c | d)
        self.assertEqual([type(row), len(row.members)], [Row, 4])
        self.assertEqual([type(bundle), len(bundle.members)], [Bundle, 4])
        self.assertEqual(row, a & (b & (c & d)))
        mixed = (a | b) & (c | d)
        self.assertEqual([len(mixed.members), type(mixed.members[0]), len(mixed)], [2, Bundle, 4])
        self.assertEqual(len(((a | b) & c) | d), 4)

    def test_a_bundle_that_becomes_a_leaf_joins_in_its_row(self):
        self.assertEqual((Leaf(RES, 2) | Leaf(RES, 2)) & Leaf(RES, 1), Leaf(RES, 2))

    def test_every_order(self):
        leaves = [seeded(seed)[0] for seed in SEEDS[:5]]
        wanted_row = reduce(lambda x, y: x & y, leaves)
        wanted_bundle = reduce(lambda x, y: x | y, leaves)
        for order in permutations(leaves):
            self.assertEqual(reduce(lambda x, y: x & y, order), wanted_row)
            self.assertEqual(reduce(lambda x, y: x | y, order), wanted_bundle)

    def test_operands_are_kept(self):
        one, other = Leaf(RES, 2) & Leaf(CAP, 1), Leaf(RES, 3)
        keys = [one.key, other.key]
        self.assertEqual(one & other, Leaf(RES, 5) & Leaf(CAP, 1))
        self.assertEqual([one.key, other.key], keys)

    def test_wrong_operands(self):
        for expression in (Leaf(RES, 2), Leaf(RES, 2) & Leaf(CAP, 1), Leaf(RES, 2) | Leaf(CAP, 1)):
            for wrong in (*ODD, 3, "x", RES):
                self.fails(InvalidForm, wrong, lambda: expression & wrong)
                self.fails(InvalidForm, wrong, lambda: expression | wrong)

    def test_many(self):
        leaf = Leaf(RES, Ratio(2, 3))
        row = reduce(lambda x, y: x & y, [leaf] * 60)
        self.assertEqual(row, Leaf(RES, 40))
        plain = reduce(lambda x, y: x & y, [Leaf(PLAIN, at + 1) for at in range(60)])
        self.assertEqual([len(plain), len(plain.members)], [60, 60])
        ladder = Leaf(PLAIN, 1)
        for at in range(29):
            ladder = (ladder & Leaf(PLAIN, at + 1)) | Leaf(PLAIN, 1)
        self.assertEqual([len(ladder), len(-ladder), -ladder == ladder], [59, 59, True])


class PoolTest(Case):
    def setUp(self):
        self.pool = pool()

    def test_equal_exactly_if_the_trees_are(self):
        texts = {}
        for expression, tree in self.pool:
            texts.setdefault(expression.key, set()).add(told(tree))
        self.assertTrue(all(len(trees) == 1 for trees in texts.values()))
        self.assertEqual(len(texts), len({told(tree) for _, tree in self.pool}))
        for (one, tree), (other, there) in product(self.pool[::5], self.pool[::7]):
            self.assertEqual([one == other, one != other], [told(tree) == told(there), told(tree) != told(there)])

    def test_shapes(self):
        shapes = {}
        for expression, tree in self.pool:
            self.assertIsInstance(expression.shape, str)
            shapes.setdefault(expression.shape, set()).add(bare(tree))
        self.assertTrue(all(len(trees) == 1 for trees in shapes.values()))
        self.assertEqual(len(shapes), len({bare(tree) for _, tree in self.pool}))

    def test_members_and_leaves(self):
        for expression, tree in self.pool:
            leaves = list(expression.leaves())
            self.assertEqual(len(expression), len(leaves))
            self.assertEqual(expression.worths, tuple(leaf.value for leaf in leaves))
            self.assertEqual(expression.control_nets, tuple(net for leaf in leaves for net in leaf.controls))
            if isinstance(expression, Leaf):
                self.assertEqual([leaves, tree[0]], [[expression], "leaf"])
                continue
            self.assertEqual(tree[0], "row" if isinstance(expression, Row) else "side")
            self.assertIsInstance(expression.members, tuple)
            self.assertEqual(len(expression.members), len(tree[1]))
            self.assertEqual(leaves, [leaf for member in expression.members for leaf in member.leaves()])
            for one, other in zip(expression.members, expression.members[1:]):
                self.assertTrue(one <= other)

    def test_leaves_of_one_shape_are_alike(self):
        found = {}
        for expression, _ in self.pool:
            kinds = [(leaf.kind.text, leaf.turn) for leaf in expression.leaves()]
            self.assertEqual(found.setdefault(expression.shape, kinds), kinds)

    def test_order(self):
        for (one, _), (other, _) in product(self.pool[::31], self.pool[::24]):
            self.assertEqual([one < other, one <= other, one > other, one >= other],
                             [one.key < other.key, one.key <= other.key, one.key > other.key, one.key >= other.key])
            self.assertEqual(one == other, one.key == other.key)

    def test_reversed(self):
        for expression, _ in self.pool:
            turned = -expression
            self.assertEqual(-turned, expression)
            self.assertEqual(type(turned), type(expression))
            turns = sorted((leaf.kind.text, str(leaf.value), leaf.controls, -leaf.turn) for leaf in expression.leaves())
            self.assertEqual(sorted((leaf.kind.text, str(leaf.value), leaf.controls, leaf.turn) for leaf in turned.leaves()), turns)
        for (one, _), (other, _) in product(self.pool[::31], self.pool[::24]):
            self.assertEqual([-(one & other), -(one | other)], [-one & -other, -one | -other])

    def test_mapped(self):
        for nets in ({}, {"x": "y"}, {"x": "y", "y": "x"}, {"x": "v/w", "z": "y"}):
            for (expression, tree) in self.pool:
                self.assertEqual(expression.mapped(nets), made(moved(tree, nets)))


def moved(tree, nets):
    """A normal tree with control nets replaced, made normal again."""
    if tree[0] == "leaf":
        return ("leaf", tree[1], tree[2], tuple(nets.get(net, net) for net in tree[3]), tree[4])
    return composed(tree[0], [moved(one, nets) for one in tree[1]])


def made(tree):
    """The expression of a normal tree."""
    if tree[0] == "leaf":
        value = Ratio(tree[2].numerator, tree[2].denominator)
        return Leaf(tree[1], value, *tree[3], turn=tree[4] or 1)
    return reduce((lambda x, y: x & y) if tree[0] == "row" else (lambda x, y: x | y), [made(one) for one in tree[1]])


class MappedTest(Case):
    def test_nets_that_become_one_join_leaves(self):
        bundle = Leaf(GATED, 1, "x") | Leaf(GATED, 2, "y")
        self.assertEqual(bundle.mapped({"x": "y"}), Leaf(GATED, 3, "y"))
        self.assertEqual((bundle & Leaf(GATED, 4, "z")).mapped({"x": "z", "y": "z"}), Leaf(GATED, 7, "z"))
        self.assertEqual(bundle, Leaf(GATED, 2, "y") | Leaf(GATED, 1, "x"))

    def test_not_one_to_one_and_exchanged(self):
        row = Leaf(SWITCH, 1, "x") & Leaf(SWITCH, 2, "y")
        self.assertEqual(row.mapped({"x": "y", "y": "x"}), Leaf(SWITCH, 1, "y") & Leaf(SWITCH, 2, "x"))
        self.assertEqual(row.mapped({"x": "y"}), Leaf(SWITCH, 1, "y") & Leaf(SWITCH, 2, "y"))

    def test_turn_is_kept(self):
        gated = DirectedKind("gd", "g")
        self.assertEqual(Leaf(gated, 1, "x", turn=-1).mapped({"x": "y"}), Leaf(gated, 1, "y", turn=-1))

    def test_keys_of_any_kind(self):
        self.assertEqual(Leaf(SWITCH, 1, "x").mapped({3: "a", None: "b", "x": "c"}), Leaf(SWITCH, 1, "c"))

    def test_wrong_maps(self):
        for expression in (Leaf(SWITCH, 1, "x"), Leaf(RES, 1), Leaf(RES, 1) & Leaf(CAP, 1), Leaf(RES, 1) | Leaf(CAP, 1)):
            for wrong in ([value for value in ODD if not isinstance(value, dict)] + ["x", 3]):
                self.fails(InvalidPins, wrong, expression.mapped, wrong)
            for wrong in WRONG_NAMES:
                nets = {"w": wrong}
                self.fails(InvalidPins, nets, expression.mapped, nets)


class ComparingTest(Case):
    def test_other_values(self):
        for expression in (Leaf(RES, 1), Leaf(RES, 1) & Leaf(CAP, 1)):
            for wrong in (*ODD, "x", expression.key, 3):
                self.assertFalse(expression == wrong)
                self.fails(InvalidForm, wrong, lambda: expression < wrong)
                self.fails(InvalidForm, wrong, lambda: expression <= wrong)
