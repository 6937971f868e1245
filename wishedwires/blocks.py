"""Blocks: circuits that are parts of other circuits; books of them."""

from wishedwires.checks import are_different_words, is_whole, is_word
from wishedwires.circuits import Circuit
from wishedwires.errors import InvalidBlock, InvalidKind, InvalidName, InvalidNumber
from wishedwires.errors import LimitExceeded, NameInUse, UnknownName
from wishedwires.kinds import Kind, PathKind, PinKind
from wishedwires.parts import Part
from wishedwires.ratios import Ratio
from wishedwires.reducing import reduced

MOST_WALKED = 1000


class BlockKind(Kind):
    """The kind of the instances of a block."""

    def __init__(self, name, *ports):
        super().__init__(name)
        if not 1 <= len(ports) <= Book.PORTS or not are_different_words(ports):
            raise InvalidKind(ports)
        self.pins = ports
        self.orders = (tuple(range(len(ports))),)
        self._line = " ".join(["block", name, *ports])

    @property
    def text(self):
        """The line that tells this kind from all others; no circuit's text has it."""
        return self._line

    def exchanges(self):
        """The exchange that changes nothing."""
        for order in self.orders:
            yield order


class Block:
    """A block as a book keeps it: its circuit, its kind, and which instances are in it.

    Depth, size and spread are told with those of the blocks that it uses, so a book makes its blocks anew whenever
    one of them is replaced.
    """

    def __init__(self, name, body, blocks):
        self.body = body
        ports = body.ports
        self.own_kind = BlockKind(name, *ports)
        self.order = body.part_names()
        kinds = [(part, body[part].kind) for part in self.order]
        self.inner = {part: kind.name for part, kind in kinds if isinstance(kind, BlockKind)}
        self.told_kinds = {kind.name: kind.text for part, kind in kinds if part not in self.inner}
        used = [blocks[other] for other in self.inner.values()]
        self.depth = max([block.depth + 1 for block in used], default=0, key=int)
        self.size = len(kinds) - len(used) + sum([block.size for block in used])
        self.spread = len(kinds) + sum([block.spread for block in used])


class Book:
    """Blocks by their names."""

    DEPTH = 60
    PORTS = 5

    def __init__(self, blocks=None):
        given = {} if blocks is None else blocks
        kept = {}
        for name, circuit in given.items():
            kept = _with_block(kept, name, circuit)
        self._blocks = kept
        self._forms = {}

    def block_names(self):
        """The sorted names of the blocks."""
        return sorted(self._blocks, key=str)

    def copied(self):
        """An equal new book."""
        return Book({name: self._blocks[name].body for name in _by_depth(self._blocks)})

    def kind_of(self, name):
        """The kind of the instances of a block."""
        return self._block(name).own_kind

    def use(self, name, *nets):
        """An instance of a block: a part with these nets."""
        kind = self._block(name).own_kind
        return Part(kind, 1, *nets)

    def uses(self, name):
        """The sorted names of the blocks that a block uses, also through others."""
        return _all_used(self._blocks, list(self._block(name).inner.values()))

    def only(self, name):
        """A new book with a block and those that it uses alone."""
        blocks = {other: self._blocks[other] for other in [name, *self.uses(name)]}
        return Book({other: blocks[other].body for other in _by_depth(blocks)})

    def depth_of(self, name):
        """The depth of a block."""
        return self._block(name).depth

    def size_of(self, name):
        """How many full names a block has."""
        return self._block(name).size

    def spread_of(self, name):
        """How many full names and instances a block has."""
        return self._block(name).spread

    def form_of(self, name):
        """The reduced form of a block's own circuit."""
        block = self._block(name)
        if name not in self._forms:
            self._forms[name] = reduced(block.body)
        return self._forms[name]

    def total_of(self, name, kind):
        """The sum of the values of all parts with a full name that have a kind of this name."""
        totals = {}
        for other in _by_depth({one: self._blocks[one] for one in [name, *self.uses(name)]}):
            block = self._blocks[other]
            total = Ratio(0)
            for part in block.body.part_names():
                if part in block.inner:
                    total = total + totals[block.inner[part]]
                elif block.body[part].kind.name == kind:
                    total = total + block.body[part].value
            totals[other] = total
        return totals[name]

    def name_at(self, name, number):
        """The full name with a number."""
        block = self._block(name)
        if not is_whole(number) or not 0 <= number < block.size:
            raise InvalidNumber(number)
        words = []
        left = number
        while True:
            part, left = self._entry_at(block, left)
            words.append(part)
            if part not in block.inner:
                return "/".join(words)
            block = self._blocks[block.inner[part]]

    def number_of(self, name, full):
        """The number of a full name."""
        block = self._block(name)
        number = 0
        for part in self._path(name, full):
            ahead = [other for other in block.order if other < part]
            number = number + sum([self._many(block, other) for other in ahead])
            if part in block.inner:
                block = self._blocks[block.inner[part]]
        return number

    def part_of(self, name, full):
        """A copy of the part with a full name."""
        block = self._block(name)
        path = self._path(name, full)
        for part in path[:-1]:
            block = self._blocks[block.inner[part]]
        return block.body[path[-1]].copied()

    def path_of(self, name, full):
        """The names of the instances on the way to a full name, and the part's own name."""
        self._block(name)
        return self._path(name, full)

    def walk(self, name, start=0, many=10):
        """The full names in order, from a number on, so many at most."""
        block = self._block(name)
        if not is_whole(start) or start < 0:
            raise InvalidNumber(start)
        if not is_whole(many) or not 0 <= many <= MOST_WALKED:
            raise InvalidNumber(many)
        for number in range(start, min(start + many, int(block.size))):
            yield self.name_at(name, number)

    def __getitem__(self, at):
        return _copy_of(self._block(at).body)

    def __setitem__(self, at, worth):
        self._blocks = _with_block(self._blocks, at, worth)
        self._forms = {name: form for name, form in self._forms.items() if name != at}

    def __contains__(self, x):
        return isinstance(x, str) and x in self._blocks

    def __iter__(self):
        raise TypeError("a book is not iterated over")

    def __len__(self):
        return len(self._blocks)

    def __eq__(self, other):
        if not isinstance(other, Book) or self.block_names() != other.block_names():
            return False
        return all([self._blocks[name].body == other._blocks[name].body for name in self._blocks])

    def __add__(self, other):
        return Book(_merged(self, other))

    def __iadd__(self, other):
        both = Book(_merged(self, other))
        self._blocks = both._blocks
        return self

    def _block(self, name):
        if name not in self:
            raise UnknownName(name)
        return self._blocks[name]

    def _many(self, block, part):
        """How many full names a part or an instance of a block stands for."""
        return self._blocks[block.inner[part]].size if part in block.inner else 1

    def _entry_at(self, block, number):
        """The part or instance of a block to which a number leads, and the number within it."""
        left = number
        for part in block.order:
            many = self._many(block, part)
            if left < many:
                return part, left
            left = left - many
        raise InvalidNumber(number)

    def _path(self, name, full):
        """The names of the instances and the part that a full name leads through."""
        if not isinstance(full, str):
            raise UnknownName(full)
        block = self._blocks[name]
        path = []
        rest = full
        step = _first_instance(block, rest)
        while step:
            path.append(step)
            rest = rest.removeprefix(f"{step}/")
            block = self._blocks[block.inner[step]]
            step = _first_instance(block, rest)
        if rest not in block.body or rest in block.inner:
            raise UnknownName(full)
        return [*path, rest]


def _first_instance(block, full):
    """The instance of a block with whose name and a slash a name begins; an empty text if there is none."""
    at = full.find("/")
    while at >= 0:
        if full[:at] in block.inner:
            return full[:at]
        at = full.find("/", at + 1)
    return ""


def _copy_of(circuit):
    """An equal new circuit. An operator runs this, and other classes have methods called copied that change things."""
    return Circuit(circuit.ports, {name: circuit[name] for name in circuit.part_names()})


def _with_block(blocks, name, circuit):
    """Blocks with one more, or with one replaced and those that use it made anew."""
    if not is_word(name):
        raise InvalidName(name)
    if not _fits(blocks, name, circuit):
        raise InvalidBlock(name)
    made = {**blocks}
    made[name] = Block(name, _copy_of(circuit), blocks)
    for other in _by_depth(blocks):
        if name in blocks and name in _all_used(blocks, list(blocks[other].inner.values())):
            made[other] = Block(other, blocks[other].body, made)
    depth = max([block.depth for block in made.values()], key=int)
    if depth > Book.DEPTH:
        raise LimitExceeded(depth)
    return made


def _fits(blocks, name, circuit):
    """Whether any value is a circuit that can be the block of this name."""
    if not isinstance(circuit, Circuit):
        return False
    ports = circuit.ports
    if not 1 <= len(ports) <= Book.PORTS or len(set(list(ports.values()))) < len(ports):
        return False
    if name in blocks and tuple(ports) != blocks[name].own_kind.pins:
        return False
    parts = [(part, circuit[part]) for part in circuit.part_names()]
    inner = {part: told.kind.name for part, told in parts if isinstance(told.kind, BlockKind)}
    if not all([_is_instance(blocks, told) for part, told in parts if part in inner]):
        return False
    if name in _all_used(blocks, list(inner.values())):
        return False
    if any([_begins_with_one(other, inner) for other in [*circuit.part_names(), *circuit.all_nets()]]):
        return False
    return _kinds_fit(blocks, name, [told.kind for part, told in parts if part not in inner])


def _is_instance(blocks, part):
    """Whether a part is an instance of a block."""
    name = part.kind.name
    return name in blocks and part.kind == blocks[name].own_kind and part.value == 1


def _begins_with_one(name, inner):
    """Whether a name begins with the name of an instance and a slash."""
    words = name.split("/")
    return any(["/".join(words[:many]) in inner for many in range(1, len(words))])


def _kinds_fit(blocks, name, kinds):
    """Whether the kinds of a block's own parts go with one another, and with the kinds and names of other blocks."""
    told = {}
    for other, block in blocks.items():
        if other != name:
            told = {**told, **block.told_kinds}
    if name in told or not all([isinstance(kind, (PinKind, PathKind)) for kind in kinds]):
        return False
    for kind in kinds:
        if kind.name == name or kind.name in blocks or told.get(kind.name, kind.text) != kind.text:
            return False
        told = {**told, kind.name: kind.text}
    return True


def _all_used(blocks, names):
    """The sorted names of some blocks and of all that they use."""
    found = []
    waiting = list(names)
    while waiting:
        name = waiting.pop()
        if name not in found:
            found.append(name)
            waiting.extend(list(blocks[name].inner.values()))
    return sorted(found, key=str)


def _by_depth(blocks):
    """The names of blocks by depth, then by name: each one behind those that it uses."""
    return [name for _, name in sorted(set([(block.depth, name) for name, block in blocks.items()]))]


def _merged(one, other):
    """The circuits of the blocks of two books, each one behind those that it uses."""
    if not isinstance(other, Book):
        raise InvalidBlock(other)
    for name in one.block_names():
        if name in other:
            raise NameInUse(name)
    mine = {name: one._blocks[name].body for name in _by_depth(one._blocks)}
    theirs = {name: other._blocks[name].body for name in _by_depth(other._blocks)}
    return {**mine, **theirs}
