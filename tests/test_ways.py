"""Point 21 and the interface section ways."""

from itertools import permutations, product
from random import Random

from wishedwires.entries import Item
from wishedwires.errors import LimitExceeded
from wishedwires.expressions import Bundle, Leaf, Row
from wishedwires.kinds import DirectedJoiningKind, JoiningKind, Kind, PathKind, PinKind
from wishedwires.ways import ways
from tests.helper import AMP, ARROW, GATE, TAP, TWO, WIRE, Case, branch, single

RES = JoiningKind("res", row="sum", side="inverse")
LED = DirectedJoiningKind("led", "g", row="sum")
BOTH = PathKind("both", "g", "h")
SIX = PinKind("six", *"abcdef", swaps=(tuple("abc"), tuple("ef")))


def tree(expression, nets, worths):
    """The expression as nested rows with other control nets and values, taken from two lists in order."""
    if isinstance(expression, Leaf):
        taken = [nets.pop(0) for _ in expression.controls]
        return ("leaf", expression.kind.text, expression.turn, worths.pop(0), *taken)
    way = "row" if isinstance(expression, Row) else "side"
    return (way, tuple(sorted((tree(member, nets, worths) for member in expression.members), key=repr)))


def turned(told):
    if told[0] == "leaf":
        return (*told[:2], -told[2], *told[3:])
    return (told[0], tuple(sorted((turned(one) for one in told[1]), key=repr)))


def writings(item, nets, worths):
    """All ways to write an item with these nets at its pins and these values at its leaves; nothing is joined."""
    if not item.is_branch:
        return {(item.shape, worths[0], tuple(nets[index] for index in order)) for order in item.kind.exchanges()}
    first, second, *controls = nets
    told = tree(item.expression, controls, list(worths))
    return {(repr(told), first, second), (repr(turned(told)), second, first)}


def is_way(item, other, pins, leaves):
    """Point 21: unlike nets and values at the one item, the same ones at what they stand for at the other one."""
    nets = [f"n{at}" for at in range(len(item.slots))]
    worths = list(range(1, len(item.worths) + 1))
    there = [nets[pins.index(pin)] for pin in range(len(nets))]
    values = [worths[leaves.index(leaf)] for leaf in range(len(worths))]
    return item.shape == other.shape and writings(item, nets, worths) == writings(other, there, values)


def by_trial(item, other):
    if (len(item.slots), len(item.worths)) != (len(other.slots), len(other.worths)):
        return []
    return [(pins, leaves) for pins, leaves in product(permutations(range(len(item.slots))), permutations(range(len(item.worths))))
            if is_way(item, other, pins, leaves)]


def random_expression(chance, leaves):
    if leaves == 1:
        kind = chance.choice((WIRE, ARROW, GATE, GATE, WIRE, RES))
        leaf = Leaf(kind, chance.choice((1, 2)), *[chance.choice("uv") for _ in kind.controls])
        return -leaf if chance.random() < 0.5 else leaf
    most = chance.randint(1, leaves - 1)
    one, other = random_expression(chance, most), random_expression(chance, leaves - most)
    return one & other if chance.random() < 0.5 else one | other


class WaysTest(Case):
    def test_singles(self):
        item = single(TWO, "x y", "t", 3)
        self.assertEqual(ways(item, item), [((0, 1), (0,)), ((1, 0), (0,))])
        self.assertEqual(ways(single(TAP, "x", "t"), single(TAP, "y", "u", 2)), [((0,), (0,))])
        self.assertEqual(ways(single(AMP, "x x x", "t"), single(AMP, "x y z", "u")), [((0, 1, 2), (0,)), ((1, 0, 2), (0,))])
        six = Item.single(SIX, 1, list("zyxwvu"), ["t"])
        self.assertEqual(ways(six, six), [(order, (0,)) for order in sorted(SIX.exchanges())])
        none = Item.single(Kind("none"), 1, [], ["t"])
        self.assertEqual(ways(none, none), [((), (0,))])

    def test_singles_by_trial(self):
        for one, other in product((single(AMP, "x y z", "t"), single(TWO, "y x", "t", 2), single(TAP, "x", "t")), repeat=2):
            self.assertEqual(ways(one, other), by_trial(one, other))

    def test_one_leaf(self):
        wire, arrow = branch(Leaf(WIRE, 1), "x y", "t"), branch(Leaf(ARROW, 1), "x y", "t")
        self.assertEqual(ways(wire, wire), [((0, 1), (0,)), ((1, 0), (0,))])
        self.assertEqual(ways(arrow, arrow), [((0, 1), (0,))])
        back = branch(-Leaf(ARROW, 2), "x y", "u")
        self.assertEqual(ways(arrow, back), by_trial(arrow, back))
        self.assertEqual(len(ways(arrow, back)), 1)
        both = branch(Leaf(BOTH, 1, "u", "v"), "x y", "t")
        self.assertEqual(ways(both, both), [((0, 1, 2, 3), (0,)), ((1, 0, 2, 3), (0,))])

    def test_equal_leaves(self):
        gates = Leaf(GATE, 1, "u") & Leaf(GATE, 1, "v")
        item = branch(gates, "x y", "t")
        self.assertEqual(ways(item, item), [((0, 1, 2, 3), (0, 1)), ((0, 1, 3, 2), (1, 0)), ((1, 0, 2, 3), (0, 1)),
                                            ((1, 0, 3, 2), (1, 0))])
        wires = branch(Leaf(WIRE, 1) | Leaf(WIRE, 2) | Leaf(WIRE, 3), "x y", "t")
        self.assertEqual(len(ways(wires, wires)), 12)
        self.assertEqual([leaves for pins, leaves in ways(wires, wires) if pins == (0, 1)], list(permutations(range(3))))

    def test_turned(self):
        led = Leaf(LED, 1, "u") & -Leaf(LED, 1, "v")
        item = branch(led, "x y", "t")
        self.assertEqual(ways(item, item), [((0, 1, 2, 3), (0, 1)), ((1, 0, 3, 2), (1, 0))])
        item = branch(Leaf(LED, 1, "u") | (Leaf(WIRE, 1) & Leaf(GATE, 1, "v")), "x y", "t")
        other = branch(-Leaf(LED, 5, "z") | (Leaf(GATE, 3, "z") & Leaf(WIRE, 4)), "x z", "u")
        self.assertEqual(ways(item, other), by_trial(item, other))
        self.assertEqual(len(ways(item, other)), 1)

    def test_nothing_is_joined(self):
        item = branch(Leaf(LED, 1, "u") & Leaf(LED, 1, "v"), "x y", "t")
        self.assertEqual(ways(item, item), [((0, 1, 2, 3), (0, 1)), ((0, 1, 3, 2), (1, 0))])
        self.assertEqual(ways(item, branch(Leaf(LED, 1, "u") & Leaf(LED, 1, "u"), "x y", "t")), [])

    def test_unlike_shapes(self):
        items = [single(TAP, "x", "t"), single(TWO, "x y", "t"), single(PinKind("two", "m", "n"), "x y", "t"),
                 branch(Leaf(WIRE, 1), "x y", "t"), branch(Leaf(ARROW, 1), "x y", "t"), branch(Leaf(GATE, 1, "u"), "x y", "t"),
                 branch(Leaf(WIRE, 1) & Leaf(WIRE, 1), "x y", "t"), branch(Leaf(WIRE, 1) | Leaf(WIRE, 1), "x y", "t"),
                 branch((Leaf(WIRE, 1) | Leaf(WIRE, 1)) & Leaf(WIRE, 1), "x y", "t")]
        for one, other in product(items, repeat=2):
            self.assertEqual(len(ways(one, other)) > 0, one is other)

    def test_random(self):
        chance = Random(41)
        found = 0
        for _ in range(250):
            one = random_expression(chance, chance.randint(1, 4))
            other = one if chance.random() < 0.4 else random_expression(chance, len(one))
            if len(one.control_nets) > 3 or len(other.control_nets) > 3:
                continue
            item = Item.branch(one, "x", "y", ["t"])
            there = Item.branch(-other if chance.random() < 0.5 else other, "y", "z", ["u"])
            told = ways(item, there)
            self.assertEqual(told, by_trial(item, there))
            found += len(told)
            for pins, leaves in told:
                self.assertEqual([type(pins), type(leaves)], [tuple, tuple])
        self.assertGreater(found, 200)

    def test_leaves(self):
        def wires(many, way="row"):
            told = Leaf(WIRE, 1)
            for at in range(many - 1):
                told = told & Leaf(WIRE, 1) if way == "row" else told | Leaf(WIRE, 1)
            return branch(told, "x y", "t")
        tap = single(TAP, "x", "t")
        self.assertEqual([len(ways(wires(5), wires(5))), ways(wires(5), wires(5, "side")), ways(wires(5), tap)], [240, [], []])
        for one, other, number in ((wires(6), wires(6), 6), (wires(6), wires(5), 6), (wires(1), wires(6), 6), (wires(6), wires(7), 7),
                                   (wires(8), tap, 8), (tap, wires(6, "side"), 6)):
            self.fails(LimitExceeded, number, ways, one, other)

    def test_classes_of_the_members(self):
        self.assertEqual([type(Leaf(WIRE, 1) & Leaf(WIRE, 1)), type(Leaf(WIRE, 1) | Leaf(WIRE, 1))], [Row, Bundle])
