"""Books and blocks whose instances are opened: the parts of their blocks come in their place."""

from wishedwires.blocks import BlockKind, Book
from wishedwires.circuits import Circuit
from wishedwires.errors import LimitExceeded, UnknownName
from wishedwires.matching import alike
from wishedwires.reducing import reduced

MOST_PARTS = 60


def opened(book, *names):
    """A new book without some blocks, whose instances are opened in all others."""
    for name in names:
        if name not in book:
            raise UnknownName(name)
    ordered = [name for _, name in sorted(set([(book.depth_of(name), name) for name in book.block_names()]))]
    circuits = {name: book[name] for name in ordered}
    _check_counts(circuits, names)
    made = {}
    for name in ordered:
        made[name] = _with_opened(circuits[name], made, names)
    return Book({name: made[name] for name in ordered if name not in names})


def flat(book, name):
    """The circuit of a block in which all instances are opened until none is left."""
    spread = book.spread_of(name)
    if spread > MOST_PARTS:
        raise LimitExceeded(spread)
    used = book.uses(name)
    return opened(book.only(name), *used)[name]


def flat_alike(one, name, other, other_name):
    """Whether the reduced forms of two flat circuits are alike."""
    circuits = (flat(one, name), flat(other, other_name))
    return alike(reduced(circuits[0]), reduced(circuits[1]))


def _is_opened(part, names):
    """Whether a part is an instance of one of these blocks."""
    return isinstance(part.kind, BlockKind) and part.kind.name in names


def _check_counts(circuits, names):
    """LimitExceeded if one of the circuits, each behind those that it uses, would have too many parts."""
    counts = {}
    for name, circuit in circuits.items():
        parts = [circuit[part] for part in circuit.part_names()]
        counts[name] = sum([counts[part.kind.name] if _is_opened(part, names) else 1 for part in parts])
    most = max(list(counts.values()), default=0, key=int)
    if most > MOST_PARTS:
        raise LimitExceeded(most)


def _with_opened(circuit, made, names):
    """A new circuit in which the instances of some blocks are opened; made tells these blocks' circuits."""
    parts = {}
    for name in circuit.part_names():
        part = circuit[name]
        if _is_opened(part, names):
            inner = made[part.kind.name]
            ports = inner.ports
            nets = {net: f"{name}/{net}" for net in inner.all_nets()}
            for pin, net in zip(part.kind.pins, part.nets):
                nets[ports[pin]] = net
            for other in inner.part_names():
                parts[f"{name}/{other}"] = inner[other].moved(nets)
        else:
            parts[name] = part
    return Circuit(circuit.ports, parts)
