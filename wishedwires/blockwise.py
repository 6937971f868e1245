"""Two blocks, of one or two books, held against one another block by block."""

from wishedwires.blocks import Book
from wishedwires.classes import check_block_limits, class_form, classing, named_turn, seats_in
from wishedwires.errors import UnknownName
from wishedwires.matching import carried


class Meeting:
    """Two blocks that are alike: the nets and the ids of the one as those of the other, and these turned round."""

    def __init__(self, nets, ids):
        self.net_places = nets
        self.id_maps = (ids, {there: name for name, there in ids.items()})


class BlockMatch:
    """A match of two blocks that are alike under the map of equal names.

    On the way down a full name, a pair of blocks stands with the exchange of their class by which the ports of the one
    are those of the other: port k, in the order of the class, is port turn[k].
    """

    def __init__(self, books, names, paper):
        self.paper = paper
        self._books = books
        self._seats = seats_in(paper)
        self._turn_nets = [{turn: dict(nets) for turn, nets, _ in turns if nets is not None} for _, turns, _ in paper]
        self._start = (*names, named_turn(self._seats, names[0], names[1]))
        self._known = {}

    def __call__(self, full):
        return self._carried(full, 0)

    def back(self, full):
        """The full name in the first block of what stands for a full name of the other one."""
        return self._carried(full, 1)

    def _carried(self, full, side):
        at = self._start
        *path, last = self._books[side].path_of(at[side], full)
        told = []
        for part in path:
            told.append(self._meeting(at).id_maps[side][part])
            ends = (part, told[-1]) if side == 0 else (told[-1], part)
            at = self._below(at, ends)
        form = self._books[side].form_of(at[side])
        if last in form.dropped:
            return None
        return "/".join([*told, self._meeting(at).id_maps[side][form.item_of(last).id]])

    def _meeting(self, at):
        """How the nets and ids of a pair of blocks are carried; found once."""
        if at not in self._known:
            name, other_name, turn = at
            index, ports, _, nets = self._seats[0][name]
            _, other_ports, _, other_nets = self._seats[1][other_name]
            turned = self._turn_nets[index][turn]
            behind = dict(other_nets)
            told = {net: behind[turned[first]] for first, net in nets}
            one = self._class_form(0, name, ports)
            other = self._class_form(1, other_name, [other_ports[place] for place in turn])
            self._known[at] = Meeting(told, carried(one, other, told))
        return self._known[at]

    def _class_form(self, side, name, ports):
        classes = {block: (index, order, turns) for block, (index, order, turns, _) in self._seats[side].items()}
        return class_form(self._books[side], name, ports, classes)

    def _below(self, at, parts):
        """The blocks of two instances that stand for one another, with the first exchange that fits their nets."""
        one, other = [self._books[side].form_of(at[side]).item_of(parts[side]) for side in (0, 1)]
        _, ports, turns, _ = self._seats[0][one.kind.name]
        _, other_ports, _, _ = self._seats[1][other.kind.name]
        carried_nets = self._meeting(at).net_places
        wanted = [carried_nets[one.slots[one.kind.pins.index(port)]] for port in ports]
        there = [other.slots[other.kind.pins.index(port)] for port in other_ports]
        fitting = [turn for turn in turns if [there[place] for place in turn] == wanted]
        return (one.kind.name, other.kind.name, fitting[0])


def match_books(one, name, other, other_name):
    """The match of two blocks that are alike under the map of equal names, or None."""
    if name not in one:
        raise UnknownName(name)
    if other_name not in other:
        raise UnknownName(other_name)
    books = (one.only(name), other.only(other_name))
    check_block_limits(books[0], books[1])
    if sorted(one.kind_of(name).pins, key=str) != sorted(other.kind_of(other_name).pins, key=str):
        return None
    paper = classing(books[0], books[1])
    if named_turn(seats_in(paper), name, other_name) is None:
        return None
    return BlockMatch(books, (name, other_name), paper)


def block_exchanges(book, name):
    """The sorted list of the exchanges of a block, as tuples of indices of its ports in its own order."""
    paper = classing(book.only(name), Book())
    _, ports, turns, _ = seats_in(paper)[0][name]
    own = book.kind_of(name).pins
    places = [ports.index(port) for port in own]
    return sorted(set([tuple([own.index(ports[turn[place]]) for place in places]) for turn in turns]))
