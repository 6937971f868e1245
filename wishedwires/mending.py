"""Boards: a drawn form, kept as a sketch, that deeds change into a wished one."""

from wishedwires.checks import are_names, is_name, is_whole
from wishedwires.circuits import Circuit
from wishedwires.errors import InvalidForm, InvalidMend, NothingToUndo, UnknownName
from wishedwires.expressions import Leaf
from wishedwires.forms import Form
from wishedwires.parts import Part
from wishedwires.pricing import Prices
from wishedwires.ratios import Ratio
from wishedwires.reducing import reduced

WORDS = {"take": 2, "value": 4, "move": 3, "put": 4}


class Drawn:
    """An item of a sketch: the item of a form that it was made from, with nets and values of its own."""

    def __init__(self, item, at_pins, worths):
        self.item = item
        self.at_pins = at_pins
        self.worths = worths


class Board:
    """A wished and a drawn form, and a sketch that begins as the drawn one."""

    def __init__(self, wished, drawn):
        for form in (wished, drawn):
            if not isinstance(form, Form):
                raise InvalidForm(form)
        if sorted(wished.ports, key=str) != sorted(drawn.ports, key=str):
            raise InvalidForm(drawn)
        self.wished = wished
        self.drawn = drawn
        self.done = ()
        self._states = []
        self._seats = drawn.ports
        self._sketch = _sketched(drawn)

    @property
    def ports(self):
        """A new dict from the ports to their nets."""
        return dict(self._seats)

    def ids(self):
        """The sorted ids of the items of the sketch."""
        return sorted(self._sketch, key=str)

    def slots_of(self, name):
        """The tuple of the nets at the pins of an item."""
        return self._item_at(name).at_pins

    def worths_of(self, name):
        """The tuple of the values of an item."""
        return self._item_at(name).worths

    def do(self, deed):
        """Does a deed."""
        if not self._can_do(deed):
            raise InvalidMend(0)
        self._do(deed)

    def play(self, deeds):
        """Does deeds in order, all of them or none."""
        if not isinstance(deeds, (list, tuple)):
            raise InvalidMend(0)
        ahead = len(self.done)
        for index, deed in enumerate(list(deeds)):
            if not self._can_do(deed):
                while len(self.done) > ahead:
                    self.undo()
                raise InvalidMend(index)
            self._do(deed)

    def undo(self):
        """Takes back the last deed."""
        if not self.done:
            raise NothingToUndo(0)
        self._seats, self._sketch = self._states.pop()
        self.done = self.done[:-1]

    def circuit(self):
        """The circuit of the sketch."""
        return _laid_out(self._seats, self._sketch)

    def form(self):
        """The reduced form of the circuit of the sketch."""
        return reduced(self.circuit())

    def __contains__(self, x):
        return isinstance(x, str) and x in self._sketch

    def __len__(self):
        return len(self._sketch)

    def _item_at(self, name):
        if name not in self:
            raise UnknownName(name)
        return self._sketch[name]

    def _can_do(self, deed):
        """Whether any value is a deed that can be done now."""
        if not isinstance(deed, tuple) or not deed or not isinstance(deed[0], str):
            return False
        if WORDS.get(deed[0]) != len(deed):
            return False
        if deed[0] == "move":
            return self._can_move(deed[1], deed[2])
        if deed[0] == "put":
            return self._can_put(deed[1], deed[2], deed[3])
        if deed[0] == "value":
            return self._can_value(deed[1], deed[2], deed[3])
        return deed[1] in self

    def _can_value(self, name, index, worth):
        if name not in self or not is_whole(index) or not 0 <= index < len(self._sketch[name].worths):
            return False
        return isinstance(worth, Ratio) and worth > 0

    def _can_move(self, pins, net):
        """Whether pins of the sketch, told by any value, are all at one net that is not this one."""
        if not isinstance(pins, tuple) or not pins or not is_name(net):
            return False
        nets = [self._net_at(pin) for pin in pins]
        if any([other is None or other != nets[0] for other in nets]) or nets[0] == net:
            return False
        return len(set(pins)) == len(pins)

    def _net_at(self, pin):
        """The net of a pin of the sketch; None for any value that is none."""
        if not isinstance(pin, tuple) or len(pin) != 2 or not isinstance(pin[0], str):
            return None
        name, index = pin
        if isinstance(index, str):
            return self._seats.get(index) if name == "port" else None
        if name not in self or not is_whole(index) or not 0 <= index < len(self._sketch[name].at_pins):
            return None
        return self._sketch[name].at_pins[index]

    def _can_put(self, wanted, name, nets):
        """Whether values tell the id of a wished item, a new id, and a tuple of nets for the item."""
        if not isinstance(wanted, str) or wanted not in [item.id for item in self.wished.entries]:
            return False
        if not is_name(name) or name in self or not isinstance(nets, tuple):
            return False
        return are_names(nets, len(self.wished.item_of(wanted).slots))

    def _do(self, deed):
        self._states.append((self._seats, self._sketch))
        self._sketch = dict(self._sketch)
        if deed[0] == "take":
            self._sketch.pop(deed[1])
        elif deed[0] == "value":
            old = self._sketch[deed[1]]
            self._sketch[deed[1]] = Drawn(old.item, old.at_pins, _with_index(old.worths, deed[2], deed[3]))
        elif deed[0] == "put":
            item = self.wished.item_of(deed[1])
            self._sketch[deed[2]] = Drawn(item, deed[3], item.worths)
        else:
            for name, index in deed[1]:
                self._move(name, index, deed[2])
        self.done = (*self.done, deed)

    def _move(self, name, index, net):
        """Puts one pin on another net."""
        if isinstance(index, str):
            self._seats = {**self._seats, index: net}
        else:
            old = self._sketch[name]
            self._sketch[name] = Drawn(old.item, _with_index(old.at_pins, index, net), old.worths)


class Layout:
    """The parts that items become, and which names for parts and nets are free yet."""

    def __init__(self, ids, nets):
        self.laid_parts = {}
        self._taken = {name: True for name in [*ids, *nets]}
        self._count = 0

    def new_name(self):
        """A name that no part and no net has."""
        self._count = self._count + 1
        while f"x{self._count}" in self._taken:
            self._count = self._count + 1
        return f"x{self._count}"

    def lay(self, name, drawn):
        """Adds the parts of an item of a sketch."""
        if not drawn.item.is_branch:
            self.laid_parts[name] = Part(drawn.item.kind, drawn.worths[0], *drawn.at_pins)
            return
        leaves = _leaf_rows(drawn)
        names = [name] + [self.new_name() for _ in leaves[1:]]
        rows = [(leaf, told) for leaf, told in zip(names, leaves)]
        self._set_between(drawn.item.expression, rows, drawn.at_pins[0], drawn.at_pins[1])

    def _set_between(self, expression, rows, first, last):
        """Adds the parts of an expression between two nets; rows tell names, values and control nets of its leaves."""
        if isinstance(expression, Leaf):
            name, (worth, controls) = rows[0]
            nets = (last, first, *controls) if expression.turn < 0 else (first, last, *controls)
            self.laid_parts[name] = Part(expression.kind, worth, *nets)
            return
        left, at = rows, first
        for index, member in enumerate(expression.members):
            following = last
            if expression.WAY == "row" and index + 1 < len(expression.members):
                following = self.new_name()
            self._set_between(member, left[:len(member)], at, following)
            left = left[len(member):]
            at = following if expression.WAY == "row" else first


def laid(form):
    """The circuit of the sketch as which a board with this drawn form begins."""
    return _laid_out(form.ports, _sketched(form))


def mends(pairing):
    """The tuple of deeds that carry out a pairing."""
    takes = [("take", name) for name in pairing.surplus_ids]
    values = []
    for name, leaf in pairing.revalued:
        partner, (_, leaves) = pairing[name]
        values.append(("value", partner, leaves[leaf], pairing.wished.item_of(name).worths[leaf]))
    places = _places(pairing)
    kept = pairing.kept
    moves = [("move", _meeting_pins(pairing, first, second), places[first])
             for first, second in pairing.meetings if (first, second) not in kept]
    puts = []
    ids = [partner for partner, _ in [pairing[name] for name in pairing.paired()]]
    for name in pairing.lost_ids:
        ids.append(_free_name(name, ids))
        puts.append(("put", name, ids[-1], tuple([places[net] for net in pairing.wished.item_of(name).slots])))
    return tuple(takes + values + moves + puts)


def cost(deeds, prices=None):
    """What deeds cost together."""
    costs = Prices() if prices is None else prices
    each = {"put": costs.lost, "take": costs.surplus, "value": costs.value, "move": costs.junction}
    total = Ratio(0)
    for deed in deeds:
        total = total + each[deed[0]]
    return total


def _sketched(form):
    """The items of a form as those of a sketch, by their ids."""
    return {item.id: Drawn(item, item.slots, item.worths) for item in form.entries}


def _with_index(row, index, value):
    """A tuple with one member replaced."""
    return (*row[:index], value, *row[index + 1:])


def _laid_out(ports, sketch):
    """The circuit of a sketch."""
    nets = [net for drawn in sketch.values() for net in drawn.at_pins]
    layout = Layout(list(sketch), nets + list(ports.values()))
    for name in sorted(sketch, key=str):
        layout.lay(name, sketch[name])
    return Circuit(ports, layout.laid_parts)


def _leaf_rows(drawn):
    """The value and the tuple of control nets of each leaf of a branch of a sketch."""
    rows = []
    controls = drawn.at_pins[2:]
    for leaf, worth in zip(drawn.item.expression.leaves(), drawn.worths):
        many = len(leaf.controls)
        rows.append((worth, controls[:many]))
        controls = controls[many:]
    return rows


def _places(pairing):
    """For each wished net the net of the mended sketch: the one that is kept with it, or a new one."""
    places = dict(pairing.kept)
    taken = {net: True for net in pairing.drawn.all_nets()}
    for net in pairing.wished.all_nets():
        if net not in places:
            places[net] = _free_name(net, taken)
            taken[places[net]] = True
    return places


def _free_name(name, taken):
    """The name itself, or a word like it that is not taken."""
    count = 0
    free = name
    while free in taken:
        count = count + 1
        free = f"x{count}"
    return free


def _meeting_pins(pairing, first, second):
    """The pins of the sketch at which a wished and a drawn net meet."""
    ports = pairing.drawn.ports
    pins = [("port", name) for name, net in pairing.wished.ports.items() if net == first and ports[name] == second]
    for name in pairing.paired():
        partner, (there, _) = pairing[name]
        slots = pairing.drawn.item_of(partner).slots
        pins.extend([(partner, pin) for net, pin in zip(pairing.wished.item_of(name).slots, there)
                     if net == first and slots[pin] == second])
    return tuple(pins)
