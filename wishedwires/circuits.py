"""Circuits: ports and parts, each with a name."""

from wishedwires.checks import is_name, is_word
from wishedwires.errors import InvalidCircuit, InvalidKind, InvalidName, NameInUse, UnknownName
from wishedwires.parts import Part


class Circuit:
    """Ports on nets, and parts between nets; the parts that are kept are handed out to be changed."""

    def __init__(self, ports=None, parts=None):
        self._ports = _checked_ports({} if ports is None else ports)
        self._kept = _copied_parts({} if parts is None else parts)

    @property
    def ports(self):
        """A new dict from the ports to their nets, in order."""
        return dict(self._ports)

    def set_port(self, name, net):
        """Adds a port at the end, or puts one on another net."""
        if not is_word(name):
            raise InvalidName(name)
        if not is_name(net):
            raise InvalidName(net)
        self._ports[name] = net

    def drop_port(self, name):
        """Takes a port away."""
        if not isinstance(name, str) or name not in self._ports:
            raise UnknownName(name)
        self._ports.pop(name)

    def take_out(self, name):
        """Takes a part out and returns it."""
        if name not in self:
            raise UnknownName(name)
        return self._kept.pop(name)

    def part_names(self):
        """The sorted names of the parts."""
        return sorted(self._kept, key=str)

    def parts(self):
        """Each name with the part that is kept, by names."""
        for name in self.part_names():
            yield (name, self._kept[name])

    def all_nets(self):
        """The sorted nets of the ports and of the parts' pins."""
        return sorted(set(list(self._ports.values()) + _nets_of(self, self.part_names())))

    def pins_at(self, net):
        """The sorted pairs (name, pin) of the pins of parts on a net."""
        return sorted(set([(name, pin) for name, part in self.parts() for pin, at in part.seats() if at == net]))

    def copied(self):
        """An equal new circuit."""
        return Circuit(self._ports, self._kept)

    def __getitem__(self, at):
        if at not in self:
            raise UnknownName(at)
        return self._kept[at]

    def __setitem__(self, at, worth):
        if not is_name(at):
            raise InvalidName(at)
        if not isinstance(worth, Part):
            raise InvalidCircuit(worth)
        _check_kinds([part for name, part in self.parts() if name != at] + [worth])
        self._kept[at] = worth.copied()

    def __contains__(self, x):
        return isinstance(x, str) and x in self._kept

    def __iter__(self):
        raise TypeError("a circuit is not iterated over")

    def __len__(self):
        return len(self._kept)

    def __eq__(self, other):
        return isinstance(other, Circuit) and self._ports == other._ports and self._kept == other._kept

    def __add__(self, other):
        places = _joints(self, other)
        further = _moved_parts(other, places)
        return Circuit(_joined_ports(self, other, places), {**self._kept, **further})

    def __iadd__(self, other):
        places = _joints(self, other)
        further = _moved_parts(other, places)
        self._ports = _joined_ports(self, other, places)
        self._kept = {**self._kept, **further}
        return self

    def __and__(self, other):
        _check_part_names(self, other)
        return _circuit_of(self, [name for name in self.part_names() if name in other])

    def __sub__(self, other):
        _check_part_names(self, other)
        return _circuit_of(self, [name for name in self.part_names() if name not in other])


def _checked_ports(ports):
    """A copy of a dict of ports."""
    if not isinstance(ports, dict):
        raise InvalidCircuit(ports)
    if not all([is_word(name) and is_name(net) for name, net in ports.items()]):
        raise InvalidCircuit(ports)
    return dict(ports)


def _copied_parts(parts):
    """A dict of copies of the parts of a dict."""
    if not isinstance(parts, dict):
        raise InvalidCircuit(parts)
    for name, part in parts.items():
        if not is_name(name):
            raise InvalidName(name)
        if not isinstance(part, Part):
            raise InvalidCircuit(part)
    _check_kinds(list(parts.values()))
    return {name: _copy_of(part) for name, part in parts.items()}


def _copy_of(part):
    """An equal new part. An operator runs this, and other classes have methods called copied that assign attributes."""
    nets = part.nets
    return Part(part.kind, part.value, *nets)


def _check_kinds(parts):
    """InvalidKind with the first kind that has the name of an unlike kind before it."""
    kinds = {}
    for part in parts:
        kind = part.kind
        if kind.name in kinds and kinds[kind.name] != kind:
            raise InvalidKind(kind)
        kinds[kind.name] = kind


def _parts_by_names(circuit):
    """The parts that are kept, by names; a list, as an operator goes over no generator."""
    return [circuit[name] for name in circuit.part_names()]


def _nets_of(circuit, names):
    """The nets at the pins of some parts."""
    return [net for name in names for net in circuit[name].nets]


def _joints(one, other):
    """The map of nets of the other circuit, at ports that both have, to nets of the first one."""
    if not isinstance(other, Circuit):
        raise InvalidCircuit(other)
    ports = one.ports
    joints = [(net, ports[name]) for name, net in other.ports.items() if name in ports]
    places = dict(joints)
    if any([places[net] != place for net, place in joints]):
        raise InvalidCircuit(other)
    _check_names_apart(one, other, places)
    _check_kinds([part for circuit in (one, other) for part in _parts_by_names(circuit)])
    return places


def _check_names_apart(one, other, places):
    """NameInUse with a part's name, or the name of a net that is not joined, that both circuits have."""
    for name in other.part_names():
        if name in one:
            raise NameInUse(name)
    nets = one.all_nets()
    for net in other.all_nets():
        if net in nets and net not in places:
            raise NameInUse(net)


def _joined_ports(one, other, places):
    """The ports of the first circuit, then the further ones of the other one; those of both are on one net by now."""
    ports = one.ports
    moved = {name: places.get(net, net) for name, net in other.ports.items()}
    return {**ports, **moved}


def _moved_parts(circuit, places):
    return {name: circuit[name].moved(places) for name in circuit.part_names()}


def _check_part_names(circuit, names):
    if not isinstance(names, list):
        raise InvalidCircuit(names)
    for name in names:
        if name not in circuit:
            raise UnknownName(name)


def _circuit_of(circuit, names):
    """The circuit of some of the parts; nets that the others have, too, become ports."""
    mine = _nets_of(circuit, names)
    rest = _nets_of(circuit, [name for name in circuit.part_names() if name not in names])
    ported = list(circuit.ports.values())
    kept = {port: net for port, net in circuit.ports.items() if net in mine}
    cut = {net: net for net in sorted(set(mine)) if net in rest and net not in ported}
    for net in cut:
        if not is_word(net):
            raise InvalidName(net)
        if net in kept:
            raise NameInUse(net)
    return Circuit({**kept, **cut}, {name: circuit[name] for name in names})
