"""Reduction of circuits to forms."""

from wishedwires.circuits import Circuit
from wishedwires.entries import Item
from wishedwires.errors import InvalidCircuit, InvalidStep
from wishedwires.expressions import Leaf
from wishedwires.forms import Form


class Reduction:
    """The items that a circuit's parts have become so far, and the steps that made them."""

    def __init__(self, circuit):
        if not isinstance(circuit, Circuit):
            raise InvalidCircuit(circuit)
        self._ports = circuit.ports
        self._items = {name: _item_of(name, part) for name, part in circuit.parts()}
        self._gone = []
        self.trace = ()

    def steps(self):
        """A list of the steps that can be done, each once."""
        ends = self._inner_ends()
        inner = sorted(ends, key=str)
        rows = [("row", net) for net in inner if len(set(ends[net])) == 2 and len(ends[net]) == 2]
        looses = [("loose", ends[net][0], net) for net in inner if len(ends[net]) == 1]
        branches = [name for name in sorted(self._items, key=str) if self._items[name].is_branch]
        places = {name: tuple(sorted(set(self._items[name].ends))) for name in branches}
        loops = [("loop", name) for name in branches if len(places[name]) == 1]
        sides = [("side", one, other) for one in branches for other in branches
                 if one < other and len(places[one]) == 2 and places[one] == places[other]]
        return loops + looses + sides + rows

    def do(self, step):
        """Does a step."""
        if step not in self.steps():
            raise InvalidStep(step)
        self._apply(step)

    def finish(self):
        """Does steps until none is left."""
        steps = self.steps()
        while steps:
            self._apply(steps[0])
            steps = self.steps()

    def form(self):
        """The form with the items as they are now."""
        return Form(self._ports, list(self._items.values()), self._gone)

    def _inner_ends(self):
        """For each inner net the ids of the branches that end there, one for each end."""
        items = list(self._items.values())
        outer = list(self._ports.values())
        outer = outer + [net for item in items for net in item.slots[len(item.ends):]]
        ends = {}
        for name, item in self._items.items():
            for net in item.ends:
                ends[net] = ends.get(net, []) + [name]
        return {net: ends[net] for net in ends if net not in outer}

    def _apply(self, step):
        if step[0] == "row":
            one, other = self._inner_ends()[step[1]]
            self._join_row(self._items[one], self._items[other], step[1])
        elif step[0] == "side":
            self._join_side(self._items[step[1]], self._items[step[2]])
        else:
            self._gone = self._gone + list(self._items[step[1]].names)
            self._items.pop(step[1])
        self.trace = (*self.trace, step)

    def _join_row(self, one, other, net):
        first, last = _far_end(one, net), _far_end(other, net)
        self._put_joined(one, other, one.along(first) & other.along(net), first, last)

    def _join_side(self, one, other):
        first, last = one.ends
        self._put_joined(one, other, one.along(first) | other.along(first), first, last)

    def _put_joined(self, one, other, expression, first, last):
        """Puts one branch in the place of two."""
        self._items.pop(one.id)
        self._items.pop(other.id)
        joined = Item.branch(expression, first, last, one.names + other.names)
        self._items[joined.id] = joined


def reduced(circuit):
    """The reduced form of a circuit."""
    reduction = Reduction(circuit)
    reduction.finish()
    return reduction.form()


def lets_trace(circuit, trace, form):
    """Whether trace is a list of steps that leads from a circuit to a form, with no step left there."""
    reduction = Reduction(circuit)
    if not isinstance(trace, list) or not isinstance(form, Form):
        return False
    for step in trace:
        if step not in reduction.steps():
            return False
        reduction.do(step)
    return len(reduction.steps()) == 0 and reduction.form().record == form.record


def _item_of(name, part):
    """The item that a part is at the beginning."""
    if not part.kind.is_path:
        return Item.single(part.kind, part.value, part.nets, [name])
    first, last, *controls = part.nets
    return Item.branch(Leaf(part.kind, part.value, *controls), first, last, [name])


def _far_end(branch, net):
    """The end of a branch that is not this one."""
    return branch.ends[1] if branch.ends[0] == net else branch.ends[0]
