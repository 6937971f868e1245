"""What the tests of books share: small blocks, chains of blocks, books drawn by a fixed rule, plain trials."""

from itertools import permutations

from wishedwires.blocks import BlockKind, Book
from wishedwires.circuits import Circuit
from wishedwires.kinds import JoiningKind
from wishedwires.parts import Part
from tests.helper import AMP, ARROW, TAP, TWO, WIRE

RES = JoiningKind("res", row="sum", side="inverse")
KINDS = {kind.name: kind for kind in (AMP, ARROW, TAP, TWO, WIRE, RES)}


def block(ports, *parts, book=None):
    """A circuit: ports as "p:a q:b", parts as "name kind value net ..", instances as "name block - net ..". """
    told = {}
    for line in parts:
        name, kind, value, *nets = line.split()
        told[name] = book.use(kind, *nets) if value == "-" else Part(KINDS[kind], int(value), *nets)
    return Circuit(dict(port.split(":") for port in ports.split()), told)


def book_of(**blocks):
    """A book of blocks that are told as tuples for block(), each one behind those that it uses."""
    book = Book()
    for name, (ports, *parts) in blocks.items():
        book[name] = block(ports, *parts, book=book)
    return book


def small():
    """The book of the document's example, and one block more."""
    return book_of(half=("p:a q:b", "r two 3 a b"),
                   pair=("p:a q:b", "u half - a x", "v half - b x"),
                   top=("p:a q:b s:c", "k pair - a c", "m pair - c b", "b res 2 a b", "l two 7 c d"))


def chain(many, first=("p:x q:y", "r two 3 x y", "s amp 2 x y z"), nets=("x m", "m y")):
    """A book of blocks b0, b1 .., each of them of instances of the one before."""
    book = book_of(b0=first)
    for at in range(many):
        instances = [f"u{index} b{at} - {told}" for index, told in enumerate(nets)]
        book[f"b{at + 1}"] = block("p:x q:y", *instances, book=book)
    return book


def names_by_hand(book, name):
    """The full names of a block, one by one."""
    circuit = book[name]
    found = []
    for part in circuit.part_names():
        kind = circuit[part].kind
        if isinstance(kind, BlockKind):
            found += [f"{part}/{inner}" for inner in names_by_hand(book, kind.name)]
        else:
            found.append(part)
    return found


def random_book(chance, depths=(0, 0, 1, 2), most=3, prefix=""):
    """A book of small blocks, those of depth above 0 with at least one instance."""
    book = Book()
    for at, depth in enumerate(depths):
        lower = [name for name in book.block_names()]
        circuit = random_block(chance, book, lower if depth else [], most)
        book[f"{prefix}{'abcdefgh'[at]}"] = circuit
    return book


def random_block(chance, book, lower, most):
    nets = "vwxyz"[:chance.choice((2, 3, 3, 4))]
    places = chance.sample(nets, chance.choice((1, 2, 2, 3)) if len(nets) > 2 else 2)
    parts = {}
    for at in range(chance.randint(1, most)):
        if lower and (at == 0 or chance.random() < 0.5):
            name = chance.choice(lower)
            parts[f"u{at}"] = book.use(name, *[chance.choice(nets) for _ in book.kind_of(name).pins])
        else:
            kind = chance.choice((TWO, AMP, TAP, WIRE, RES))
            parts[f"t{at}"] = Part(kind, chance.choice((1, 1, 2)), *[chance.choice(nets) for _ in kind.pins])
    return Circuit(dict(zip("pqrst", places)), parts)


def disguised(chance, book, prefix="z", same_ports=False, spoil=0.0):
    """A book of blocks alike to those of another one: nets, names, orders and names of ports are mixed.

    With same_ports, ports keep their names; with spoil above 0 the value of a part is sometimes another one.
    """
    made, names, maps = Book(), {}, {}
    for name in sorted(book.block_names(), key=book.depth_of):
        circuit = book[name]
        nets = circuit.all_nets()
        places = dict(zip(nets, chance.sample([f"n{at}" for at in range(len(nets))], len(nets))))
        ports = list(circuit.ports)
        told = dict(zip(ports, ports if same_ports else chance.sample(ports, len(ports))))
        names[name], maps[name] = f"{prefix}{name}", told
        parts = {}
        for part, new in zip(circuit.part_names(), chance.sample(circuit.part_names(), len(circuit))):
            kind, nets_there = circuit[part].kind, [places[net] for net in circuit[part].nets]
            if isinstance(kind, BlockKind):
                at = dict(zip([maps[kind.name][pin] for pin in kind.pins], nets_there))
                parts[new] = made.use(names[kind.name], *[at[pin] for pin in made.kind_of(names[kind.name]).pins])
            else:
                worth = circuit[part].value + (1 if chance.random() < spoil else 0)
                order = chance.choice(list(kind.exchanges()))
                parts[new] = Part(kind, worth, *[nets_there[at] for at in order])
        mixed = chance.sample(ports, len(ports))
        made[names[name]] = Circuit({told[port]: places[circuit.ports[port]] for port in mixed}, parts)
    return made


def port_maps(one, name, other, other_name):
    """The port maps under which two blocks are alike, as dicts: a plain trial of all maps, by the words of point 30."""
    mine, theirs = list(one.kind_of(name).pins), list(other.kind_of(other_name).pins)
    if len(mine) != len(theirs):
        return []
    told = [dict(zip(mine, order)) for order in permutations(theirs)]
    return [ports for ports in told if alike_under(one, name, other, other_name, ports)]


def alike_under(one, name, other, other_name, ports):
    form, there = one.form_of(name), other.form_of(other_name)
    nets, places = form.all_nets(), there.all_nets()
    if len(nets) != len(places) or len(form) != len(there):
        return False
    fixed = {net: there.ports[ports[port]] for port, net in form.ports.items()}
    free = [net for net in nets if net not in fixed]
    rest = [place for place in places if place not in fixed.values()]
    for order in permutations(rest):
        carried = {**fixed, **dict(zip(free, order))}
        if fits(one, form, other, there, carried):
            return True
    return False


def fits(one, form, other, there, carried):
    """Whether the items of a form, their nets carried, are one to one equal to those of another one."""
    mine = [item for item in form if isinstance(item.kind, BlockKind)]
    theirs = [item for item in there if isinstance(item.kind, BlockKind)]
    plain = sorted(item.mapped(carried).key for item in form if not isinstance(item.kind, BlockKind))
    if plain != sorted(item.key for item in there if not isinstance(item.kind, BlockKind)) or len(mine) != len(theirs):
        return False
    for order in permutations(theirs):
        if all(same_use(one, item, other, place, carried) for item, place in zip(mine, order)):
            return True
    return False


def same_use(one, item, other, place, carried):
    """Whether an instance may be carried to another one, its nets as they are carried."""
    for ports in port_maps(one, item.kind.name, other, place.kind.name):
        told = dict(zip(place.kind.pins, place.slots))
        if all(told[ports[port]] == carried[net] for port, net in zip(item.kind.pins, item.slots)):
            return True
    return False
