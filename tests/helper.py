"""What the tests share."""

import unittest
from itertools import permutations

from wishedwires.blocks import BlockKind, Book
from wishedwires.circuits import Circuit
from wishedwires.entries import Item
from wishedwires.expressions import Leaf
from wishedwires.forms import Form
from wishedwires.kinds import DirectedKind, JoiningKind, PathKind, PinKind
from wishedwires.parts import Part

# Values of many kinds that are no integers, texts or objects of the package.
ODD = (None, True, False, 1.5, b"a", [], (), {}, ["a"], ("a",), {"a": "b"}, object())

WRONG_WORDS = ("", "A", "1a", "a b", "a-b", "a_b", "\u00e9", "a\u00b2", "a" * 13, "a/b", "a\n", " a", 3, *ODD)
WORDS = ("a", "z9", "r1", "a" * 12, "abc0123456")

NO_PARTS = (*ODD, "a", 3)

WRONG_NAMES = ("", "/", "a/", "/a", "a//b", "a/1", "a/B", "a" * 13, "a/" + "b" * 13, "a b",
               "/".join(["a"] * 65), 3, *ODD)
NAMES = ("a", "a/b", "u1/v2/x", "/".join(["a" * 12] * 64))


class Case(unittest.TestCase):
    """A test case that can ask for an error together with what it keeps."""

    def fails(self, error, given, call, *args, **more):
        """The call raises just this class of error, which keeps the very value given."""
        with self.assertRaises(error) as caught:
            call(*args, **more)
        self.assertEqual(error.__name__, type(caught.exception).__name__)
        kept = caught.exception.given
        self.assertTrue(kept is given or (type(kept) is type(given) and kept == given), (kept, given))

    def keeps(self, circuit, error, given, call, *args, **more):
        """The call fails, and the circuit is as before: its ports in order, its parts, and which objects these are."""
        before = told(circuit)
        self.fails(error, given, call, *args, **more)
        self.assertEqual(told(circuit), before)


def told(circuit):
    """All that can be told of a circuit."""
    parts = [(name, id(part), part.kind.text, str(part.value), part.nets) for name, part in circuit.parts()]
    return list(circuit.ports.items()), parts


TAP = PinKind("tap", "m")
TWO = PinKind("two", "m", "n", swaps=(("m", "n"),))
AMP = PinKind("amp", "p", "q", "o", swaps=(("p", "q"),))
WIRE = PathKind("wire")
GATE = PathKind("gate", "g")
ARROW = DirectedKind("arrow")


def single(kind, nets, name, value=1):
    """A single; nets and names are told as texts of words."""
    return Item.single(kind, value, nets.split(), name.split())


def branch(expression, nets, name):
    return Item.branch(expression, *nets.split(), name.split())


def wires(nets, name="w"):
    """One branch of a wire for each pair of nets that are told as "xy"."""
    return [branch(Leaf(WIRE, 1), " ".join(pair), f"{name}{at:02d}") for at, pair in enumerate(nets.split())]


def ring(nets, name="w"):
    """A ring of equal wires on the nets of a text, one letter each."""
    return wires(" ".join(one + other for one, other in zip(nets, nets[1:] + nets[0])), name)


EXPRESSIONS = (Leaf(WIRE, 1), Leaf(WIRE, 2), Leaf(ARROW, 1), Leaf(GATE, 1, "x"), Leaf(GATE, 1, "y"),
               Leaf(ARROW, 1) & Leaf(GATE, 1, "x"), (Leaf(GATE, 1, "x") | Leaf(GATE, 1, "y")) & Leaf(ARROW, 1),
               Leaf(ARROW, 1) | -Leaf(ARROW, 1))


def random_form(chance, nets="vwxyz", most=4):
    """A form of at most so many items on some of the nets, and at most two ports."""
    ports = {name: chance.choice(nets) for name in "pq" if chance.random() < 0.3}
    return Form(ports, [random_item(chance, nets, f"t{at}") for at in range(chance.randint(0, most))])


def random_item(chance, nets, name):
    if chance.random() < 0.5:
        kind = chance.choice((TAP, TWO, AMP))
        return Item.single(kind, chance.choice((1, 1, 2)), [chance.choice(nets) for _ in kind.pins], [name])
    expression = chance.choice(EXPRESSIONS).mapped({"x": chance.choice(nets), "y": chance.choice(nets)})
    return Item.branch(expression, chance.choice(nets), chance.choice(nets), [name])


def renamed(chance, form):
    """An alike form, with nets and names mixed and the items in another order."""
    nets = form.all_nets()
    places = dict(zip(nets, chance.sample(nets, len(nets))))
    ids = [item.id for item in form.entries]
    names = dict(zip(ids, chance.sample(ids, len(ids))))
    items = [of_names(item.mapped(places), [names[item.id]]) for item in form.entries]
    return Form({name: places[net] for name, net in form.ports.items()}, chance.sample(items, len(items)))


def of_names(item, names):
    """The same item with other names."""
    if item.is_branch:
        return Item.branch(item.expression, *item.ends, names)
    return Item.single(item.kind, item.worths[0], item.slots, names)


def all_matchings(one, other):
    """All pairs of dicts of nets and ids that make a matching, in their order: a plain trial of all maps."""
    mine, theirs = one.all_nets(), other.all_nets()
    ids, their_ids = sorted(item.id for item in one.entries), sorted(item.id for item in other.entries)
    found = []
    if len(mine) != len(theirs) or len(ids) != len(their_ids) or set(one.ports) != set(other.ports):
        return found
    for places in permutations(theirs):
        nets = dict(zip(mine, places))
        if any(nets[net] != other.ports[name] for name, net in one.ports.items()):
            continue
        moved = {name: one.item_of(name).mapped(nets) for name in ids}
        for order in permutations(their_ids):
            if all(moved[name] == other.item_of(there) for name, there in zip(ids, order)):
                found.append((nets, dict(zip(ids, order))))
    return found


def by_hand(colour):
    """A net's name for a colour."""
    return f"c{colour}" if colour >= 0 else f"m{-colour}"


def touch(item, net, colours):
    """A text for the touch of a net, of items that join nothing."""
    return item.mapped({**{other: by_hand(colours[other]) for other in item.slots}, net: "t" + by_hand(colours[net])}).key


def told_print(item, colours):
    return item.mapped({net: by_hand(colours[net]) for net in item.slots}).key


def marks(form, side, pairs):
    return {net: (sorted(name for name in form.ports if form.ports[name] == net),
                  [at for at, pair in enumerate(pairs) if pair[side] == net]) for net in form.all_nets()}


# Books of blocks: small ones, chains, books drawn by a fixed rule, and plain trials by the words of point 30.
RES = JoiningKind("res", row="sum", side="inverse")
KINDS = {kind.name: kind for kind in (AMP, ARROW, TAP, TWO, WIRE, RES)}


def block(ports, *parts, book=None):
    """A circuit: ports as "p:a q:b", parts as "name kind value net ..", instances as "name block - net .." of the book."""
    told = {}
    for line in parts:
        name, kind, value, *nets = line.split()
        told[name] = book.use(kind, *nets) if value == "-" else Part(KINDS[kind], int(value), *nets)
    return Circuit(dict(port.split(":") for port in ports.split()), told)


def book_of(**blocks):
    """A book of blocks that are told as tuples for block(), each one behind those that it uses."""
    book = Book()
    for name, (ports, *parts) in blocks.items():
        book[name] = block(ports, *parts, book=book)
    return book


def small():
    """The book of the document's example, and one block more."""
    return book_of(half=("p:a q:b", "r two 3 a b"),
                   pair=("p:a q:b", "u half - a x", "v half - b x"),
                   top=("p:a q:b s:c", "k pair - a c", "m pair - c b", "b res 2 a b", "l two 7 c d"))


def chain(many, first=("p:x q:y", "r two 3 x y", "s amp 2 x y z"), nets=("x m", "m y")):
    """A book of blocks b0, b1 .., each of them of instances of the one before."""
    book = book_of(b0=first)
    for at in range(many):
        instances = [f"u{index} b{at} - {told}" for index, told in enumerate(nets)]
        book[f"b{at + 1}"] = block("p:x q:y", *instances, book=book)
    return book


def names_by_hand(book, name):
    """The full names of a block, one by one."""
    circuit = book[name]
    found = []
    for part in circuit.part_names():
        kind = circuit[part].kind
        if isinstance(kind, BlockKind):
            found += [f"{part}/{inner}" for inner in names_by_hand(book, kind.name)]
        else:
            found.append(part)
    return found


def random_book(chance, depths=(0, 0, 1, 2), most=3, prefix=""):
    """A book of small blocks, those of depth above 0 with at least one instance."""
    book = Book()
    for at, depth in enumerate(depths):
        lower = [name for name in book.block_names()]
        circuit = random_block(chance, book, lower if depth else [], most)
        book[f"{prefix}{'abcdefgh'[at]}"] = circuit
    return book


def random_block(chance, book, lower, most):
    nets = "vwxyz"[:chance.choice((2, 3, 3, 4))]
    places = chance.sample(nets, chance.choice((1, 2, 2, 3)) if len(nets) > 2 else 2)
    parts = {}
    for at in range(chance.randint(1, most)):
        if lower and (at == 0 or chance.random() < 0.5):
            name = chance.choice(lower)
            parts[f"u{at}"] = book.use(name, *[chance.choice(nets) for _ in book.kind_of(name).pins])
        else:
            kind = chance.choice((TWO, AMP, TAP, WIRE, RES))
            parts[f"t{at}"] = Part(kind, chance.choice((1, 1, 2)), *[chance.choice(nets) for _ in kind.pins])
    return Circuit(dict(zip("pqrst", places)), parts)


def disguised(chance, book, prefix="z", same_ports=False, spoil=0.0):
    """A book of blocks alike to those of another one: nets, names, orders and names of ports are mixed.

    With same_ports, ports keep their names; with spoil above 0 the value of a part is sometimes another one.
    """
    made, names, maps = Book(), {}, {}
    for name in sorted(book.block_names(), key=book.depth_of):
        circuit = book[name]
        nets = circuit.all_nets()
        places = dict(zip(nets, chance.sample([f"n{at}" for at in range(len(nets))], len(nets))))
        ports = list(circuit.ports)
        told = dict(zip(ports, ports if same_ports else chance.sample(ports, len(ports))))
        names[name], maps[name] = f"{prefix}{name}", told
        parts = {}
        for part, new in zip(circuit.part_names(), chance.sample(circuit.part_names(), len(circuit))):
            kind, nets_there = circuit[part].kind, [places[net] for net in circuit[part].nets]
            if isinstance(kind, BlockKind):
                at = dict(zip([maps[kind.name][pin] for pin in kind.pins], nets_there))
                parts[new] = made.use(names[kind.name], *[at[pin] for pin in made.kind_of(names[kind.name]).pins])
            else:
                worth = circuit[part].value + (1 if chance.random() < spoil else 0)
                order = chance.choice(list(kind.exchanges()))
                parts[new] = Part(kind, worth, *[nets_there[at] for at in order])
        mixed = chance.sample(ports, len(ports))
        made[names[name]] = Circuit({told[port]: places[circuit.ports[port]] for port in mixed}, parts)
    return made


def port_maps(one, name, other, other_name):
    """The port maps under which two blocks are alike, as dicts: a plain trial of all maps, by the words of point 30."""
    mine, theirs = list(one.kind_of(name).pins), list(other.kind_of(other_name).pins)
    if len(mine) != len(theirs):
        return []
    told = [dict(zip(mine, order)) for order in permutations(theirs)]
    return [ports for ports in told if alike_under(one, name, other, other_name, ports)]


def alike_under(one, name, other, other_name, ports):
    form, there = one.form_of(name), other.form_of(other_name)
    nets, places = form.all_nets(), there.all_nets()
    if len(nets) != len(places) or len(form) != len(there):
        return False
    fixed = {net: there.ports[ports[port]] for port, net in form.ports.items()}
    free = [net for net in nets if net not in fixed]
    rest = [place for place in places if place not in fixed.values()]
    for order in permutations(rest):
        carried = {**fixed, **dict(zip(free, order))}
        if fits(one, form, other, there, carried):
            return True
    return False


def fits(one, form, other, there, carried):
    """Whether the items of a form, their nets carried, are one to one equal to those of another one."""
    mine = [item for item in form if isinstance(item.kind, BlockKind)]
    theirs = [item for item in there if isinstance(item.kind, BlockKind)]
    plain = sorted(item.mapped(carried).key for item in form if not isinstance(item.kind, BlockKind))
    if plain != sorted(item.key for item in there if not isinstance(item.kind, BlockKind)) or len(mine) != len(theirs):
        return False
    for order in permutations(theirs):
        if all(same_use(one, item, other, place, carried) for item, place in zip(mine, order)):
            return True
    return False


def same_use(one, item, other, place, carried):
    """Whether an instance may be carried to another one, its nets as they are carried."""
    for ports in port_maps(one, item.kind.name, other, place.kind.name):
        told = dict(zip(place.kind.pins, place.slots))
        if all(told[ports[port]] == carried[net] for port, net in zip(item.kind.pins, item.slots)):
            return True
    return False
