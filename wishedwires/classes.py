"""Classes of blocks that are alike, with papers for all that is alike and all that is not."""

from wishedwires.blocks import BlockKind
from wishedwires.checks import is_whole
from wishedwires.entries import Item
from wishedwires.errors import LimitExceeded
from wishedwires.forms import Form
from wishedwires.kinds import Kind
from wishedwires.matching import MOST_ITEMS, MOST_NETS, Matching, carried, matching
from wishedwires.refuting import compared, copied_refutation, lets_refutation, refutation, refuted_without_names


class ClassKind(Kind):
    """The kind of the instances of all blocks of a class."""

    def __init__(self, index, size, exchanges):
        super().__init__(f"class{index}")
        self.index = index
        self.size = size
        self.pins = tuple([_port_name(place) for place in range(size)])
        self.orders = tuple(sorted(set(exchanges)))
        told = " , ".join([" ".join([str(pin) for pin in order]) for order in self.orders])
        self._line = f"class {index} {size} : {told}"

    def exchanges(self):
        """The exchanges, ascending."""
        for order in self.orders:
            yield order

    def __eq__(self, other):
        return isinstance(other, ClassKind) and self.text == other.text


class Memory:
    """What was found of class forms, by their records; it may be kept from one classing to the next one."""

    def __init__(self):
        self.turned_forms = {}
        self.turns_told = {}
        self.seats_told = {}
        self.papers_told = {}


class Shelf:
    """The classes of two books so far.

    Seated tells, for each side, where a block is a member: (index of the class, ports in the order of the class,
    exchanges of the class). Counts tell, for each side, the number of items of each block. Rows tell of each class the
    class form of its first member, the number of its items, and the exchanges.
    """

    def __init__(self, one, other, memory):
        check_block_limits(one, other)
        self.books = (one, other)
        self.memory = memory
        self.counts = (_item_counts(one), _item_counts(other))
        self.seated = ({}, {})
        self.rows = []

    def formed(self, side, name, ports):
        """The class form of a block, with its ports in this order."""
        return class_form(self.books[side], name, ports, self.seated[side])

    def begin(self, form, count, exchanges):
        """Adds a class."""
        self.rows.append((form, count, exchanges))

    def seat(self, index, side, name, ports):
        """Makes a block a member of a class."""
        self.seated[side][name] = (index, ports, self.rows[index][2])


def class_form(book, name, ports, classes):
    """The class form of a block with its ports in an order; classes tell of the blocks of its instances."""
    form = book.form_of(name)
    nets = form.ports
    seats = {_port_name(place): nets[port] for place, port in enumerate(ports)}
    return Form(seats, [_classed(item, classes) for item in form.entries])


def classing(one, other):
    """A classing of two books."""
    return classing_with(one, other, Memory())


def lets_classing(one, other, paper):
    """Whether any value is a classing of two books."""
    return lets_classing_with(one, other, paper, Memory())


def classing_with(one, other, memory):
    """A classing of two books, with a memory."""
    shelf = Shelf(one, other, memory)
    ordered = [(depth, side, name) for side, book in enumerate(shelf.books) for depth, name in _names_by_depth(book)]
    rows, signs = [], []
    for _, side, name in sorted(set(ordered)):
        own = shelf.books[side].kind_of(name).pins
        form, count = shelf.formed(side, name, own), shelf.counts[side][name]
        sign = (count, _sign(form))
        index, turn, nets = _seat_among(shelf, form, [index for index, told in enumerate(signs) if told == sign])
        if index is None:
            index = len(rows)
            turns = _turns(form, memory)
            rows.append([[], turns, _reasons(shelf, form, count)])
            signs.append(sign)
            shelf.begin(form, count, _exchanges_in(turns))
            turn, nets = tuple(range(len(own))), _net_pairs(Matching.identity(form))
        ports = tuple([own[place] for place in turn])
        rows[index][0].append((side, name, ports, nets))
        shelf.seat(index, side, name, ports)
    return tuple([(tuple(members), turns, apart) for members, turns, apart in rows])


def lets_classing_with(one, other, paper, memory):
    """Whether any value is a classing of two books, with a memory."""
    shelf = Shelf(one, other, memory)
    if not isinstance(paper, tuple):
        return False
    for index, row in enumerate(paper):
        if not isinstance(row, tuple) or len(row) != 3:
            return False
        members, turns, apart = row
        if not _are_members(shelf, members):
            return False
        side, name, ports, _ = members[0]
        form, count = shelf.formed(side, name, ports), shelf.counts[side][name]
        turned = _all_turned(form, memory)
        if not _are_turns(form, turned, turns) or not _are_reasons(shelf, turned, count, apart):
            return False
        shelf.begin(form, count, _exchanges_in(turns))
        for side, name, ports, _ in members:
            shelf.seat(index, side, name, ports)
    return [len(side) for side in shelf.seated] == [len(one), len(other)]


def seats_in(paper):
    """For each side, where a classing has each block: (index of the class, ports, exchanges of the class, nets)."""
    seats = ({}, {})
    for index, (members, turns, _) in enumerate(paper):
        for side, name, ports, nets in members:
            seats[side][name] = (index, ports, _exchanges_in(turns), nets)
    return seats


def named_turn(seats, name, other_name):
    """The exchange by which a block of side 0 is alike to one of side 1 under the map of equal names, or None."""
    mine, theirs = seats[0][name], seats[1][other_name]
    if mine[0] != theirs[0] or sorted(mine[1], key=str) != sorted(theirs[1], key=str):
        return None
    turn = tuple([theirs[1].index(port) for port in mine[1]])
    return turn if turn in mine[2] else None


def _port_name(place):
    """The name of a port of a class form."""
    return f"p{place + 1}"


def _classed(item, classes):
    """An item in which an instance of a block is one of the block's class."""
    if item.is_branch or not isinstance(item.kind, BlockKind):
        return item
    index, ports, exchanges = classes[item.kind.name]
    nets = [item.slots[item.kind.pins.index(port)] for port in ports]
    return Item.single(ClassKind(index, len(ports), exchanges), 1, nets, item.names)


def check_block_limits(one, other):
    """LimitExceeded if a block's reduced form has more items, or otherwise more nets, than are searched."""
    forms = [book.form_of(name) for book in (one, other) for name in book.block_names()]
    items = max([len(form) for form in forms], default=0)
    if items > MOST_ITEMS:
        raise LimitExceeded(items)
    nets = max([len(form.all_nets()) for form in forms], default=0)
    if nets > MOST_NETS:
        raise LimitExceeded(nets)


def _names_by_depth(book):
    """The depths and names of the blocks of a book, each one behind those that it uses."""
    return sorted(set([(book.depth_of(name), name) for name in book.block_names()]))


def _item_counts(book):
    """The number of items of each block, those of the blocks of its instances in the place of the instances."""
    counts = {}
    for _, name in _names_by_depth(book):
        kinds = [item.kind for item in book.form_of(name)]
        counts[name] = sum([counts[kind.name] if isinstance(kind, BlockKind) else 1 for kind in kinds])
    return counts


def _permutations(many):
    """All permutations of so many indices, ascending."""
    found = [()]
    for _ in range(many):
        found = [(*order, index) for order in found for index in range(many) if index not in order]
    return found


def _all_turned(form, memory):
    """For each permutation of ports, ascending, a pair: the class form with the port of index turn[k] as port k."""
    if form.record not in memory.turned_forms:
        ports = form.ports
        told = []
        for turn in _permutations(len(ports)):
            seats = {_port_name(place): ports[_port_name(index)] for place, index in enumerate(turn)}
            told.append((turn, Form(seats, form.entries)))
        memory.turned_forms[form.record] = told
    return memory.turned_forms[form.record]


def _sign(form):
    """A text that alike forms have in common, whatever the order of their ports."""
    ports = list(form.ports.values())
    words = {net: str(ports.count(net)) for net in form.all_nets()}
    told = sorted([item.written(words) for item in form.entries], key=str)
    return "\n".join([f"{len(ports)} {len(words)}", *told])


def _net_pairs(found):
    """The nets of a matching as a sorted tuple of pairs."""
    return tuple(list(found))


def _exchanges_in(turns):
    """The permutations that are exchanges."""
    return tuple([turn for turn, nets, _ in turns if nets is not None])


def _seat_among(shelf, form, indices):
    """The first of some classes to which a class form belongs: its index, a turn that shows it, and nets; else None."""
    known = shelf.memory.seats_told
    for index in indices:
        first = shelf.rows[index][0]
        key = (first.record, form.record)
        if key not in known:
            known[key] = _seat(first, _all_turned(form, shelf.memory))
        turn, nets = known[key]
        if turn is not None:
            return index, turn, nets
    return None, None, None


def _seat(first, turned):
    """The first turn of a class form with which it matches another one, and the nets; else None."""
    for turn, form in turned:
        found = matching(first, form)
        if found is not None:
            return turn, _net_pairs(found)
    return None, None


def _turns(form, memory):
    """Which permutations of the ports of a class form are exchanges, and what shows it."""
    known = memory.turns_told
    if form.record not in known:
        told = [(turn, compared(form, other)) for turn, other in _all_turned(form, memory)]
        known[form.record] = [(turn, None if found is None else _net_pairs(found), paper)
                              for turn, (found, paper) in told]
    # Each paper that is told has dicts of its own.
    return tuple([(turn, nets, copied_refutation(paper)) for turn, nets, paper in known[form.record]])


def _reasons(shelf, form, count):
    """Why a class form is of none of the classes so far."""
    reasons = []
    for index, (first, before, _) in enumerate(shelf.rows):
        reason = _plain_reason(first, before, form, count)
        reasons.append((index, ("forms", _refutations(first, form, shelf.memory)) if reason is None else reason))
    return tuple(reasons)


def _plain_reason(first, before, form, count):
    """Why numbers of ports or items tell a class form from another one, or None if they don't."""
    if len(first.ports) != len(form.ports):
        return ("ports",)
    return ("items", count, before) if before != count else None


def _refutations(first, form, memory):
    """For each permutation of the ports of a class form, a refutation of another one and of it turned so."""
    known = memory.papers_told
    key = (first.record, form.record)
    if key not in known:
        turned = _all_turned(form, memory)
        shared = refuted_without_names(first, form)
        known[key] = [refutation(first, other) if shared is None else shared for _, other in turned]
    return tuple([copied_refutation(paper) for paper in known[key]])


def _are_members(shelf, members):
    """Whether any value is a tuple of blocks that have no class yet and are alike, with all that is told of them."""
    if not isinstance(members, tuple) or not members:
        return False
    first = None
    seen = {}
    for member in members:
        if not isinstance(member, tuple) or len(member) != 4 or not _is_free(shelf, member[0], member[1]):
            return False
        side, name, ports, nets = member
        if (side, name) in seen or not _are_ports(shelf.books[side].kind_of(name).pins, ports, first is None):
            return False
        seen[(side, name)] = True
        form = shelf.formed(side, name, ports)
        first = form if first is None else first
        if not _are_nets(first, form, nets):
            return False
    return True


def _is_free(shelf, side, name):
    """Whether two values tell a block that has no class yet, but all of whose instances have one."""
    if not is_whole(side) or side not in (0, 1) or name not in shelf.books[side] or name in shelf.seated[side]:
        return False
    kinds = [item.kind for item in shelf.books[side].form_of(name)]
    return all([kind.name in shelf.seated[side] for kind in kinds if isinstance(kind, BlockKind)])


def _are_ports(own, ports, is_first):
    """Whether any value is a tuple of a block's own ports, those of a first member in their own order."""
    if not isinstance(ports, tuple) or not all([isinstance(port, str) for port in ports]):
        return False
    return ports == own if is_first else sorted(ports, key=str) == sorted(own, key=str)


def _are_nets(first, form, nets):
    """Whether any value is a sorted tuple of the pairs of nets of a matching."""
    if not isinstance(nets, tuple) or not all([_is_pair(pair) for pair in nets]):
        return False
    told = dict(nets)
    return len(told) == len(nets) and sorted(set(nets)) == list(nets) and carried(first, form, told) is not None


def _is_pair(pair):
    """Whether any value is a tuple of two texts."""
    return isinstance(pair, tuple) and len(pair) == 2 and all([isinstance(net, str) for net in pair])


def _are_turns(form, turned, turns):
    """Whether any value tells of each permutation of ports, ascending, whether it is an exchange, and shows it."""
    if not isinstance(turns, tuple) or len(turns) != len(turned):
        return False
    for (turn, other), row in zip(turned, turns):
        if not isinstance(row, tuple) or len(row) != 3 or not isinstance(row[0], tuple):
            return False
        if row[0] != turn or not all([is_whole(place) for place in row[0]]):
            return False
        if row[1] is None:
            if not lets_refutation(form, other, row[2]):
                return False
        elif row[2] is not None or not _are_nets(form, other, row[1]):
            return False
    return True


def _are_reasons(shelf, turned, count, apart):
    """Whether any value tells, for each class so far, why a class form is not of it."""
    if not isinstance(apart, tuple) or len(apart) != len(shelf.rows):
        return False
    for index, row in enumerate(apart):
        if not isinstance(row, tuple) or len(row) != 2 or not is_whole(row[0]) or row[0] != index:
            return False
        first, before, _ = shelf.rows[index]
        if not _is_reason(first, before, turned, count, row[1]):
            return False
    return True


def _is_reason(first, before, turned, count, reason):
    """Whether any value tells why a class form with so many items is not of the class of another one."""
    if not isinstance(reason, tuple):
        return False
    told = _plain_reason(first, before, turned[0][1], count)
    if told is not None:
        return reason == told and all([is_whole(number) for number in reason[1:]])
    if len(reason) != 2 or reason[0] != "forms" or not isinstance(reason[1], tuple) or len(reason[1]) != len(turned):
        return False
    return all([lets_refutation(first, form, paper) for (_, form), paper in zip(turned, reason[1])])
