"""Parts of circuits."""

from wishedwires.checks import are_names, is_name, is_net_map
from wishedwires.errors import InvalidKind, InvalidName, InvalidPins, UnknownName
from wishedwires.kinds import Kind
from wishedwires.ratios import value_of


class Part:
    """A part: a kind, a value, and a net at each pin of the kind."""

    def __init__(self, kind, value, *nets):
        if not isinstance(kind, Kind):
            raise InvalidKind(kind)
        self.kind = kind
        self._value = value_of(value)
        self._nets = _fitting(kind, nets)

    @property
    def value(self):
        """The value, a ratio."""
        return self._value

    @value.setter
    def value(self, value):
        self._value = value_of(value)

    @property
    def nets(self):
        """The tuple of the nets, in the order of the pins."""
        return self._nets

    @nets.setter
    def nets(self, nets):
        self._nets = _fitting(self.kind, nets)

    def set_value(self, value):
        """Sets the value."""
        self._value = value_of(value)

    def set_nets(self, *nets):
        """Sets the nets at all pins."""
        self._nets = _fitting(self.kind, nets)

    def seats(self):
        """Each pin with its net, in order."""
        for seat in zip(self.kind.pins, self._nets):
            yield seat

    def copied(self):
        """An equal new part."""
        return Part(self.kind, self._value, *self._nets)

    def moved(self, nets):
        """A new part with nets replaced by a dict."""
        if not is_net_map(nets):
            raise InvalidPins(nets)
        places = [nets.get(net, net) for net in self._nets]
        return Part(self.kind, self._value, *places)

    def __getitem__(self, at):
        return self._nets[self._index_of(at)]

    def __setitem__(self, at, worth):
        index = self._index_of(at)
        if not is_name(worth):
            raise InvalidName(worth)
        self._nets = self._nets[:index] + (worth,) + self._nets[index + 1:]

    def __iter__(self):
        raise TypeError("a part is not iterated over")

    def __len__(self):
        return len(self._nets)

    def __eq__(self, other):
        if not isinstance(other, Part):
            return False
        return self.kind == other.kind and self._value == other._value and self._nets == other._nets

    def _index_of(self, pin):
        # No tuple is asked for its index here: operators run this, and a kind of class has an attribute of that name.
        for place, name in enumerate(self.kind.pins):
            if name == pin:
                return place
        raise UnknownName(pin)


def _fitting(kind, nets):
    """Nets as a tuple; InvalidPins unless they are a list or tuple of a name for each pin of the kind."""
    if not are_names(nets, len(kind.pins)):
        raise InvalidPins(nets)
    return tuple(nets)
