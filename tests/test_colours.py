"""Points 14, 15 and 16 and the interface section colours."""

from collections import Counter
from random import Random

from wishedwires.colours import difference, first_colours, next_colours, rounds
from wishedwires.errors import UnknownName
from wishedwires.expressions import Leaf
from wishedwires.forms import Form
from wishedwires.kinds import DirectedKind, JoiningKind, PinKind
from wishedwires.reading import parse
from wishedwires.reducing import reduced
from tests.helper import (AMP, ARROW, GATE, ODD, TAP, TWO, WIRE, Case, branch, marks, random_form, renamed, ring, single,
                          told_print, touch, wires)

PLAIN = PinKind("plain", "m", "n")
GATED = JoiningKind("gated", "g", row="sum", side="sum")


def signs(form, colours):
    """What the next colouring looks at, by the words of point 15."""
    return {net: (colours[net], Counter(touch(item, net, colours) for item in form if net in item.slots))
            for net in form.all_nets()}


def numbered(one, other):
    """Signs of the nets of two forms as colours."""
    seen = []
    for sign in [one[net] for net in sorted(one)] + [other[net] for net in sorted(other)]:
        if sign not in seen:
            seen.append(sign)
    return {net: seen.index(one[net]) for net in one}, {net: seen.index(other[net]) for net in other}


def differences(one, other, colours):
    """All differences in their order."""
    counts = [Counter(side.values()) for side in colours]
    prints = [{item.id: told_print(item, colours[side]) for item in form} for side, form in enumerate((one, other))]
    shown = [Counter(side.values()) for side in prints]
    nets = [("net", colour) for colour in sorted(counts[0] | counts[1]) if counts[0][colour] != counts[1][colour]]
    return nets + [("item", side, name) for side in (0, 1) for name in sorted(prints[side])
                   if shown[0][prints[side][name]] != shown[1][prints[side][name]]]


def random_pairs(chance, one, other):
    if not one.all_nets() or not other.all_nets():
        return []
    return [(chance.choice(one.all_nets()), chance.choice(other.all_nets())) for _ in range(chance.choice((0, 0, 1, 2, 4)))]


def random_colours(chance, one, other, colours=(0, 1, -1, 10, 7)):
    return tuple({net: chance.choice(colours) for net in form.all_nets()} for form in (one, other))


def some_forms(many, seed):
    chance = Random(seed)
    for _ in range(many):
        one = random_form(chance)
        yield chance, one, renamed(chance, one) if chance.random() < 0.5 else random_form(chance)


class FirstTest(Case):
    def test_ports(self):
        one = Form({"q": "x", "p": "x", "r": "y"}, [single(TWO, "z w", "t")])
        other = Form({"p": "b", "q": "b", "r": "c"}, [single(TWO, "a d", "t")])
        self.assertEqual(first_colours(one, other), ({"w": 0, "x": 1, "y": 2, "z": 0}, {"a": 0, "b": 1, "c": 2, "d": 0}))
        more = Form({"p": "b", "r": "c"}, [single(TWO, "a d", "t")])
        self.assertEqual(first_colours(one, more), ({"w": 0, "x": 1, "y": 2, "z": 0}, {"a": 0, "b": 3, "c": 2, "d": 0}))

    def test_pairs(self):
        one, other = Form({}, wires("ab bc")), Form({}, wires("de ef"))
        self.assertEqual(first_colours(one, other, [("b", "e")]), ({"a": 0, "b": 1, "c": 0}, {"d": 0, "e": 1, "f": 0}))
        self.assertEqual(first_colours(one, other, (("a", "f"), ("b", "e"))),
                         ({"a": 0, "b": 1, "c": 2}, {"d": 2, "e": 1, "f": 0}))

    def test_pairs_that_name_a_net_twice(self):
        one, other = Form({}, wires("ab")), Form({}, wires("ab"))
        self.assertEqual(first_colours(one, other, [("a", "a"), ("a", "b")]), ({"a": 0, "b": 1}, {"a": 2, "b": 3}))
        self.assertEqual(first_colours(one, other, [("a", "a"), ("a", "a")]), ({"a": 0, "b": 1}, {"a": 0, "b": 1}))
        self.assertEqual(first_colours(one, other, [("a", "b"), ("b", "b")]), ({"a": 0, "b": 1}, {"a": 2, "b": 3}))

    def test_order_of_the_indices(self):
        # A net in the pairs 0 and 1 has another mark than nets in only one of them, and the sides are told apart.
        one, other = Form({}, wires("ab bc")), Form({}, wires("ab bc"))
        self.assertEqual(first_colours(one, other, [("a", "b"), ("b", "a")]),
                         ({"a": 0, "b": 1, "c": 2}, {"a": 1, "b": 0, "c": 2}))

    def test_net_of_no_item(self):
        one, other = Form({"p": "x", "q": "y"}, []), Form({"p": "z", "q": "z"}, [])
        self.assertEqual(first_colours(one, other), ({"x": 0, "y": 1}, {"z": 2}))

    def test_empty(self):
        self.assertEqual(first_colours(Form({}, []), Form({}, [])), ({}, {}))
        self.assertEqual(first_colours(Form({}, []), Form({"p": "x"}, []), []), ({}, {"x": 0}))

    def test_unknown(self):
        one, other = Form({}, wires("ab")), Form({}, wires("bc"))
        for pairs, wrong in (([("c", "a")], "c"), ([("a", "a")], "a"), ([("a", "b"), ("b", "d"), ("e", "f")], "d"),
                             ([("b", "b"), ("f", "e")], "f"), ((("a", None),), None), ([(3, "b")], 3)):
            self.fails(UnknownName, wrong, first_colours, one, other, pairs)
            told = rounds(one, other, pairs)
            self.fails(UnknownName, wrong, next, told)
        for wrong in ODD:
            self.fails(UnknownName, wrong, first_colours, one, other, [("a", "b"), ("a", wrong)])

    def test_random(self):
        for chance, one, other in some_forms(200, 1):
            pairs = random_pairs(chance, one, other)
            told = first_colours(one, other, pairs)
            self.assertEqual(told, numbered(marks(one, 0, pairs), marks(other, 1, pairs)))
            self.assertEqual([type(told), type(told[0]), type(told[1])], [tuple, dict, dict])


class NextTest(Case):
    def test_random(self):
        for chance, one, other in some_forms(400, 2):
            colours = random_colours(chance, one, other)
            before = (dict(colours[0]), dict(colours[1]))
            told = next_colours(one, other, colours)
            self.assertEqual(told, numbered(signs(one, colours[0]), signs(other, colours[1])))
            self.assertEqual(colours, before)

    def test_ends_exchanged(self):
        one, other = Form({}, wires("ab bc")), Form({}, wires("ba cb"))
        self.assertEqual(next_colours(one, other, ({"a": 1, "b": 2, "c": 1}, {"a": 1, "b": 2, "c": 1})),
                         ({"a": 0, "b": 1, "c": 0}, {"a": 0, "b": 1, "c": 0}))
        there, back = [Form({}, [branch(Leaf(ARROW, 1), nets, "t")]) for nets in ("a b", "b a")]
        self.assertEqual(next_colours(there, back, ({"a": 0, "b": 0}, {"a": 0, "b": 0})), ({"a": 0, "b": 1}, {"a": 1, "b": 0}))
        turned = Form({}, [branch(-Leaf(ARROW, 1), "a b", "t")])
        self.assertEqual(next_colours(back, turned, ({"a": 0, "b": 0}, {"a": 0, "b": 0})), ({"a": 0, "b": 1}, {"a": 0, "b": 1}))

    def test_pins_exchanged(self):
        one, other = Form({}, [single(AMP, "x y z", "t")]), Form({}, [single(AMP, "y x z", "t")])
        flat = ({"x": 5, "y": 5, "z": 5}, {"x": 5, "y": 5, "z": 5})
        self.assertEqual(next_colours(one, other, flat), ({"x": 0, "y": 0, "z": 1}, {"x": 0, "y": 0, "z": 1}))

    def test_a_net_twice_at_an_item(self):
        one = Form({}, [single(TWO, "x x", "t"), single(TWO, "y z", "u")])
        self.assertEqual(next_colours(one, one, ({"x": 0, "y": 0, "z": 0},) * 2)[0], {"x": 0, "y": 1, "z": 1})

    def test_how_often(self):
        one = Form({}, [single(TWO, "x y", "t"), single(TWO, "y x", "u"), single(TWO, "v w", "s")])
        self.assertEqual(next_colours(one, one, ({net: 0 for net in "vwxy"},) * 2)[0], {"v": 0, "w": 0, "x": 1, "y": 1})

    def test_values_and_kinds(self):
        one = Form({}, [single(TAP, "w", "t1"), single(TAP, "x", "t2", 2), single(PLAIN, "y y", "t3"), single(TWO, "z z", "t4")])
        self.assertEqual(next_colours(one, one, ({net: 0 for net in "wxyz"},) * 2)[0], {"w": 0, "x": 1, "y": 2, "z": 3})

    def test_two_figures(self):
        nets = {"v": 1, "w": 11, "x": 11, "y": 1}
        one = Form({}, [single(PLAIN, "v w", "t"), single(PLAIN, "x y", "u")])
        self.assertEqual(next_colours(one, one, (nets, nets))[0], {"v": 0, "w": 1, "x": 2, "y": 3})

    def test_great_and_negative_colours(self):
        one, other = Form({}, wires("ab")), Form({}, wires("cd"))
        great = 10 ** 59
        self.assertEqual(next_colours(one, other, ({"a": -1, "b": great}, {"c": great, "d": -1})), (
            {"a": 0, "b": 1}, {"c": 1, "d": 0}))
        self.assertEqual(next_colours(one, other, ({"a": 1, "b": great}, {"c": great, "d": -1})), (
            {"a": 0, "b": 1}, {"c": 2, "d": 3}))

    def test_nothing_is_joined(self):
        apart = Form({}, [branch(Leaf(GATED, 1, "x") & Leaf(GATED, 2, "y"), "a b", "t")])
        other = Form({}, [branch(Leaf(GATED, 1, "y") & Leaf(GATED, 2, "x"), "a b", "t")])
        joined = Form({}, [branch(Leaf(GATED, 1, "x") & Leaf(GATED, 2, "x"), "a b", "t"), single(TAP, "y", "u")])
        colours = {"a": 1, "b": 1, "x": 2, "y": 2}
        self.assertEqual(difference(apart, other, (colours, colours)), None)
        self.assertEqual(next_colours(apart, other, (colours, colours)), (
            {"a": 0, "b": 0, "x": 1, "y": 2}, {"a": 0, "b": 0, "x": 2, "y": 1}))
        self.assertEqual(difference(apart, joined, (colours, colours)), ("item", 0, "t"))

    def test_order_of_the_dicts(self):
        one = Form({}, wires("ab bc"))
        colours = {"c": 2, "b": 1, "a": 2}
        self.assertEqual(list(next_colours(one, one, (colours, colours))[0].items()), [("a", 0), ("b", 1), ("c", 0)])


class RoundsTest(Case):
    def test_random(self):
        for chance, one, other in some_forms(200, 3):
            pairs = random_pairs(chance, one, other)
            told = list(rounds(one, other, pairs))
            self.assertEqual(told[0], first_colours(one, other, pairs))
            numbers = [len({*one_side.values(), *other_side.values()}) for one_side, other_side in told]
            for earlier, later in zip(told, told[1:]):
                self.assertEqual(later, next_colours(one, other, earlier))
            self.assertEqual(numbers, sorted(set(numbers)))
            last = next_colours(one, other, told[-1])
            self.assertEqual(len({*last[0].values(), *last[1].values()}), numbers[-1])

    def test_a_row_of_wires(self):
        form = Form({"p": "a"}, wires("ab bc cd de"))
        told = [dict(one) for one, _ in rounds(form, form)]
        self.assertEqual(told, [{"a": 0, "b": 1, "c": 1, "d": 1, "e": 1}, {"a": 0, "b": 1, "c": 2, "d": 2, "e": 3},
                                {"a": 0, "b": 1, "c": 2, "d": 3, "e": 4}])

    def test_changes_have_no_effect(self):
        form = Form({"p": "a"}, wires("ab bc cd de"))
        expected = list(rounds(form, form))
        pairs = []
        for colours, right in zip(rounds(form, form, pairs), expected):
            self.assertEqual(colours, right)
            colours[0].clear()
            colours[1]["a"] = 9
            pairs.append(("none", "none"))

    def test_fixed_pairs(self):
        form = Form({}, ring("abcdef"))
        self.assertEqual(len(list(rounds(form, form))), 1)
        self.assertEqual(len(list(rounds(form, form, [("a", "a")]))), 3)

    def test_empty(self):
        self.assertEqual(list(rounds(Form({}, []), Form({}, []))), [({}, {})])

    def test_one_net_each(self):
        one, other = [Form({}, [single(TAP, net, "t")]) for net in "xy"]
        self.assertEqual(next(rounds(one, other)), ({"x": 0}, {"y": 0}))


class DifferenceTest(Case):
    def test_random(self):
        for chance, one, other in some_forms(600, 4):
            colours = random_colours(chance, one, other, chance.choice(((0,), (0, 1), (3, -2, 12))))
            told = differences(one, other, colours)
            self.assertEqual(difference(one, other, colours), told[0] if told else None)

    def test_least_colour(self):
        one, other = Form({}, wires("ab")), Form({}, wires("cd"))
        self.assertEqual(difference(one, other, ({"a": 10, "b": -9}, {"c": 9, "d": 10})), ("net", -9))
        self.assertEqual(difference(one, other, ({"a": 10, "b": 9}, {"c": 9, "d": 9})), ("net", 9))
        self.assertEqual(difference(one, other, ({"a": 10, "b": 9}, {"c": 9, "d": 10})), None)

    def test_least_item(self):
        one = Form({}, [single(TAP, "x", "t2"), single(TAP, "x", "t1"), single(TWO, "x x", "t0")])
        other = Form({}, [single(TAP, "x", "u3"), single(TWO, "x x", "u1"), single(AMP, "x x x", "u2")])
        colours = ({"x": 0}, {"x": 0})
        self.assertEqual(difference(one, other, colours), ("item", 0, "t1"))
        self.assertEqual(difference(other, one, colours), ("item", 0, "u2"))
        fewer = Form({}, [single(TAP, "x", "t1")])
        self.assertEqual(difference(fewer, Form({}, [single(TAP, "x", "t1"), single(TWO, "x x", "t0")]), colours), ("item", 1, "t0"))
        more = Form({}, [single(TAP, "x", "t0"), single(TAP, "x", "t1")])
        self.assertEqual(difference(fewer, more, colours), ("item", 0, "t1"))

    def test_nets_come_first(self):
        one, other = Form({}, [single(TAP, "x", "t")]), Form({}, [single(TWO, "x y", "u")])
        self.assertEqual(difference(one, other, ({"x": 3}, {"x": 3, "y": 4})), ("net", 4))
        self.assertEqual(difference(one, other, ({"x": 3}, {"x": 3, "y": 3})), ("net", 3))

    def test_two_figures(self):
        one, other = Form({}, [single(PLAIN, "x y", "t")]), Form({}, [single(PLAIN, "y x", "t")])
        self.assertEqual(difference(one, other, ({"x": 1, "y": 11}, {"x": 1, "y": 11})), ("item", 0, "t"))
        self.assertEqual(difference(one, other, ({"x": 1, "y": 11}, {"x": 11, "y": 1})), None)

    def test_ends_exchanged(self):
        one, other = Form({}, wires("ab")), Form({}, wires("ba"))
        self.assertEqual(difference(one, other, ({"a": 1, "b": 2}, {"a": 2, "b": 1})), None)
        self.assertEqual(difference(one, other, ({"a": 1, "b": 2}, {"a": 1, "b": 2})), None)

    def test_order_within_rows_is_not_seen(self):
        row = Leaf(GATE, 1, "x") & Leaf(GATE, 1, "y")
        one = Form({}, [branch(row | Leaf(WIRE, 1), "a b", "t")])
        other = Form({}, [branch(row | Leaf(WIRE, 1), "a b", "t")])
        colours = {"a": 0, "b": 0, "x": 1, "y": 2}
        self.assertEqual(difference(one, other, (colours, {**colours, "x": 2, "y": 1})), None)
        self.assertEqual(difference(one, other, (colours, {"a": 1, "b": 2, "x": 0, "y": 0})), ("item", 0, "t"))

    def test_kinds_of_one_name(self):
        one, other = [Form({}, [branch(Leaf(kind, 1), "a b", "t")]) for kind in (WIRE, DirectedKind("wire"))]
        colours = {"a": 0, "b": 0}
        self.assertEqual(difference(one, other, (colours, colours)), ("item", 0, "t"))

    def test_empty(self):
        self.assertEqual(difference(Form({}, []), Form({}, []), ({}, {})), None)
        self.assertEqual(difference(Form({}, []), Form({"p": "x"}, []), ({}, {"x": 5})), ("net", 5))

    def test_reduced_forms(self):
        text = "path res : row sum side inverse\nport p a\nport q b\npart r1 res 2 a x\npart r2 res 3 x b"
        one, other = reduced(parse(text)), reduced(parse(text.replace("r1 res 2", "r1 res 3").replace("r2 res 3", "r2 res 2")))
        self.assertEqual(difference(one, other, first_colours(one, other)), None)
        other = reduced(parse(text.replace("r2 res 3", "r2 res 4")))
        self.assertEqual(difference(one, other, first_colours(one, other)), ("item", 0, "r1"))
