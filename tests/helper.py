"""What the tests share."""

import unittest
from itertools import permutations

from wishedwires.entries import Item
from wishedwires.expressions import Leaf
from wishedwires.forms import Form
from wishedwires.kinds import DirectedKind, PathKind, PinKind

# Values of many kinds that are no integers, texts or objects of the package.
ODD = (None, True, False, 1.5, b"a", [], (), {}, ["a"], ("a",), {"a": "b"}, object())

WRONG_WORDS = ("", "A", "1a", "a b", "a-b", "a_b", "\u00e9", "a\u00b2", "a" * 13, "a/b", "a\n", " a", 3, *ODD)
WORDS = ("a", "z9", "r1", "a" * 12, "abc0123456")

NO_PARTS = (*ODD, "a", 3)

WRONG_NAMES = ("", "/", "a/", "/a", "a//b", "a/1", "a/B", "a" * 13, "a/" + "b" * 13, "a b",
               "/".join(["a"] * 65), 3, *ODD)
NAMES = ("a", "a/b", "u1/v2/x", "/".join(["a" * 12] * 64))


class Case(unittest.TestCase):
    """A test case that can ask for an error together with what it keeps."""

    def fails(self, error, given, call, *args, **more):
        """The call raises just this class of error, which keeps the very value given."""
        with self.assertRaises(error) as caught:
            call(*args, **more)
        self.assertEqual(error.__name__, type(caught.exception).__name__)
        kept = caught.exception.given
        self.assertTrue(kept is given or (type(kept) is type(given) and kept == given), (kept, given))

    def keeps(self, circuit, error, given, call, *args, **more):
        """The call fails, and the circuit is as before: its ports in order, its parts, and which objects these are."""
        before = told(circuit)
        self.fails(error, given, call, *args, **more)
        self.assertEqual(told(circuit), before)


def told(circuit):
    """All that can be told of a circuit."""
    parts = [(name, id(part), part.kind.text, str(part.value), part.nets) for name, part in circuit.parts()]
    return list(circuit.ports.items()), parts


TAP = PinKind("tap", "m")
TWO = PinKind("two", "m", "n", swaps=(("m", "n"),))
AMP = PinKind("amp", "p", "q", "o", swaps=(("p", "q"),))
WIRE = PathKind("wire")
GATE = PathKind("gate", "g")
ARROW = DirectedKind("arrow")


def single(kind, nets, name, value=1):
    """A single; nets and names are told as texts of words."""
    return Item.single(kind, value, nets.split(), name.split())


def branch(expression, nets, name):
    return Item.branch(expression, *nets.split(), name.split())


def wires(nets, name="w"):
    """One branch of a wire for each pair of nets that are told as "xy"."""
    return [branch(Leaf(WIRE, 1), " ".join(pair), f"{name}{at:02d}") for at, pair in enumerate(nets.split())]


def ring(nets, name="w"):
    """A ring of equal wires on the nets of a text, one letter each."""
    return wires(" ".join(one + other for one, other in zip(nets, nets[1:] + nets[0])), name)


EXPRESSIONS = (Leaf(WIRE, 1), Leaf(WIRE, 2), Leaf(ARROW, 1), Leaf(GATE, 1, "x"), Leaf(GATE, 1, "y"),
               Leaf(ARROW, 1) & Leaf(GATE, 1, "x"), (Leaf(GATE, 1, "x") | Leaf(GATE, 1, "y")) & Leaf(ARROW, 1),
               Leaf(ARROW, 1) | -Leaf(ARROW, 1))


def random_form(chance, nets="vwxyz", most=4):
    """A form of at most so many items on some of the nets, and at most two ports."""
    ports = {name: chance.choice(nets) for name in "pq" if chance.random() < 0.3}
    return Form(ports, [random_item(chance, nets, f"t{at}") for at in range(chance.randint(0, most))])


def random_item(chance, nets, name):
    if chance.random() < 0.5:
        kind = chance.choice((TAP, TWO, AMP))
        return Item.single(kind, chance.choice((1, 1, 2)), [chance.choice(nets) for _ in kind.pins], [name])
    expression = chance.choice(EXPRESSIONS).mapped({"x": chance.choice(nets), "y": chance.choice(nets)})
    return Item.branch(expression, chance.choice(nets), chance.choice(nets), [name])


def renamed(chance, form):
    """An alike form, with nets and names mixed and the items in another order."""
    nets = form.all_nets()
    places = dict(zip(nets, chance.sample(nets, len(nets))))
    ids = [item.id for item in form.entries]
    names = dict(zip(ids, chance.sample(ids, len(ids))))
    items = [of_names(item.mapped(places), [names[item.id]]) for item in form.entries]
    return Form({name: places[net] for name, net in form.ports.items()}, chance.sample(items, len(items)))


def of_names(item, names):
    """The same item with other names."""
    if item.is_branch:
        return Item.branch(item.expression, *item.ends, names)
    return Item.single(item.kind, item.worths[0], item.slots, names)


def all_matchings(one, other):
    """All pairs of dicts of nets and ids that make a matching, in their order: a plain trial of all maps."""
    mine, theirs = one.all_nets(), other.all_nets()
    ids, their_ids = sorted(item.id for item in one.entries), sorted(item.id for item in other.entries)
    found = []
    if len(mine) != len(theirs) or len(ids) != len(their_ids) or set(one.ports) != set(other.ports):
        return found
    for places in permutations(theirs):
        nets = dict(zip(mine, places))
        if any(nets[net] != other.ports[name] for name, net in one.ports.items()):
            continue
        moved = {name: one.item_of(name).mapped(nets) for name in ids}
        for order in permutations(their_ids):
            if all(moved[name] == other.item_of(there) for name, there in zip(ids, order)):
                found.append((nets, dict(zip(ids, order))))
    return found


def by_hand(colour):
    """A net's name for a colour."""
    return f"c{colour}" if colour >= 0 else f"m{-colour}"


def touch(item, net, colours):
    """A text for the touch of a net, of items that join nothing."""
    return item.mapped({**{other: by_hand(colours[other]) for other in item.slots}, net: "t" + by_hand(colours[net])}).key


def told_print(item, colours):
    return item.mapped({net: by_hand(colours[net]) for net in item.slots}).key


def marks(form, side, pairs):
    return {net: (sorted(name for name in form.ports if form.ports[name] == net),
                  [at for at, pair in enumerate(pairs) if pair[side] == net]) for net in form.all_nets()}
