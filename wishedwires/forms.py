"""Forms: ports on nets, and items between nets."""

from wishedwires.checks import are_names, is_name, is_word
from wishedwires.entries import Item
from wishedwires.errors import InvalidForm, UnknownName


class Form:
    """Ports, items in the order of their keys, and the names of parts that were dropped."""

    def __init__(self, ports, entries, dropped=()):
        _check_ports(ports)
        _check_entries(entries)
        self._at = {name: item for item in entries for name in item.names}
        _check_dropped(dropped, self._at)
        self._ports = dict(ports)
        order = sorted(set([(item.key, item.id, index) for index, item in enumerate(entries)]))
        self.entries = tuple([entries[index] for _, _, index in order])
        self.dropped = tuple(sorted(dropped, key=str))
        self._keys = [item.key for item in self.entries]
        self._nets = sorted(set(list(ports.values()) + [net for item in self.entries for net in item.slots]))
        seats = tuple([(name, ports[name]) for name in sorted(ports, key=str)])
        self.record = (seats, tuple([(item.key, item.names) for item in self.entries]), self.dropped)

    @property
    def ports(self):
        """A new dict from the ports to their nets, in order."""
        return dict(self._ports)

    def all_nets(self):
        """The sorted nets of the ports and of the items."""
        return list(self._nets)

    def item_of(self, name):
        """The item with a part of this name."""
        if not isinstance(name, str) or name not in self._at:
            raise UnknownName(name)
        return self._at[name]

    def __contains__(self, x):
        return isinstance(x, Item) and x.key in self._keys

    def __iter__(self):
        return iter(self.entries)

    def __len__(self):
        return len(self.entries)

    def __eq__(self, other):
        return isinstance(other, Form) and self._ports == other._ports and self._keys == other._keys


def _check_ports(ports):
    if not isinstance(ports, dict):
        raise InvalidForm(ports)
    if not all([is_word(name) and is_name(net) for name, net in ports.items()]):
        raise InvalidForm(ports)


def _check_entries(entries):
    """InvalidForm unless entries is a list or tuple of items that have no name in common."""
    if not isinstance(entries, (list, tuple)) or not all([isinstance(item, Item) for item in entries]):
        raise InvalidForm(entries)
    names = [name for item in entries for name in item.names]
    if len(set(names)) < len(names):
        raise InvalidForm(entries)


def _check_dropped(dropped, taken):
    """InvalidForm unless dropped is a list or tuple of different names that are not taken."""
    if not isinstance(dropped, (list, tuple)) or not are_names(dropped, len(dropped)):
        raise InvalidForm(dropped)
    if len(set(dropped)) < len(dropped) or any([name in taken for name in dropped]):
        raise InvalidForm(dropped)
