"""Sessions: circuits that are edited, with undo; their forms, and numbers for the items of these."""

from wishedwires.checks import is_whole
from wishedwires.circuits import Circuit
from wishedwires.errors import InvalidCircuit, InvalidEdit, NameInUse, NothingToUndo, RunFailed, UnknownName, WireError
from wishedwires.reducing import reduced

MEMBERS = {"add": 3, "remove": 2, "move": 4, "value": 3, "port": 3, "drop": 2}


class Session:
    """A circuit that is edited.

    Each change begins with a copy of the circuit, so what was is left as it was for an undo.
    """

    def __init__(self, circuit):
        if not isinstance(circuit, Circuit):
            raise InvalidCircuit(circuit)
        self._past = []
        self._now = circuit.copied()
        self._reduced = reduced(self._now)
        self._numbers = {item.id: number for number, item in enumerate(self._reduced.entries)}
        self._free = len(self._numbers)

    def circuit(self):
        """A copy of the circuit."""
        return self._now.copied()

    def form(self):
        """The reduced form of the circuit."""
        return self._reduced

    def number_of(self, name):
        """The number of the item with a part."""
        return self._numbers[self._reduced.item_of(name).id]

    def do(self, edit):
        """Does an edit."""
        if not _is_edit(edit):
            raise InvalidEdit(edit)
        circuit = self._now.copied()
        _change(circuit, edit)
        self._keep(circuit)

    def run(self, edits):
        """Does several edits as one change: all of them or none."""
        if not isinstance(edits, (list, tuple)):
            raise InvalidEdit(None)
        for index, edit in enumerate(edits):
            if not _is_edit(edit):
                raise InvalidEdit(index)
        circuit = self._now.copied()
        for index, edit in enumerate(edits):
            try:
                _change(circuit, edit)
            except (WireError, NameInUse, UnknownName) as e:
                raise RunFailed(index) from e
        self._keep(circuit)

    def undo(self, *, number=1):
        """Takes back the latest changes."""
        if not is_whole(number) or not 1 <= number <= len(self._past):
            raise NothingToUndo(number)
        self._now, self._reduced, self._numbers = self._past[-number]
        self._past = self._past[:-number]

    def __len__(self):
        return len(self._past)

    def _keep(self, circuit):
        """Makes a circuit the session's; items that stay as they are keep their numbers."""
        form = reduced(circuit)
        numbers = {}
        for item in form.entries:
            if item.id in self._numbers and _is_same(self._reduced.item_of(item.id), item):
                numbers[item.id] = self._numbers[item.id]
            else:
                numbers[item.id] = self._free
                self._free = self._free + 1
        self._past = [*self._past, (self._now, self._reduced, self._numbers)]
        self._now, self._reduced, self._numbers = circuit, form, numbers


def _is_edit(edit):
    """Whether any value is a tuple with the first word of an edit and as many members as there."""
    if not isinstance(edit, tuple) or not edit or not isinstance(edit[0], str):
        return False
    return MEMBERS.get(edit[0]) == len(edit)


def _change(circuit, edit):
    """Does an edit on a circuit."""
    word, name = edit[0], edit[1]
    if word == "add":
        if name in circuit:
            raise NameInUse(name)
        circuit[name] = edit[2]
    elif word == "remove":
        circuit.take_out(name)
    elif word == "move":
        part = circuit[name]
        part[edit[2]] = edit[3]
    elif word == "value":
        circuit[name].set_value(edit[2])
    elif word == "port":
        circuit.set_port(name, edit[2])
    else:
        circuit.drop_port(name)


def _is_same(one, other):
    """Whether two items are equal, with the same names."""
    return one.names == other.names and one == other
