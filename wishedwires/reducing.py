"""Reduction of circuits to forms."""

from wishedwires.circuits import Circuit
from wishedwires.entries import Item
from wishedwires.errors import InvalidCircuit, InvalidStep
from wishedwires.expressions import Leaf
from wishedwires.forms import Form


class Strand:
    """A branch of a reduction: its names, its ends, its control nets, and how its expression is made.

    The expression is made when a form is asked for, as steps are told by the ends alone.
    """

    def __init__(self, names, tips, controls, made):
        self.names = names
        self.tips = tips
        self.controls = controls
        self.made = made

    def far_tip(self, net):
        """The end that is not this one."""
        return self.tips[1] if self.tips[0] == net else self.tips[0]

    def told_from(self, net):
        """The expression from this end on."""
        told = self._told()
        return told if net == self.tips[0] else -told

    def _told(self):
        """The expression from the first end to the second one."""
        way, one, other = self.made
        if way == "leaf":
            return Leaf(one, other, *self.controls)
        first = self.tips[0]
        if way == "side":
            return one.told_from(first) | other.told_from(first)
        return one.told_from(first) & other.told_from(one.far_tip(first))


class Reduction:
    """The items that a circuit's parts have become so far, and the steps that made them."""

    def __init__(self, circuit):
        if not isinstance(circuit, Circuit):
            raise InvalidCircuit(circuit)
        self._ports = circuit.ports
        self._strands = {}
        self._singles = []
        self._gone = []
        self._ends = {}
        self._held = {}
        self.trace = ()
        self._hold(list(self._ports.values()), 1)
        for name, part in circuit.parts():
            self._begin(name, part)
        self._open_steps = _steps_of(self._strands, self._ends, self._held)

    def steps(self):
        """A list of the steps that can be done, each once."""
        return list(self._open_steps)

    def do(self, step):
        """Does a step."""
        if step not in self._open_steps:
            raise InvalidStep(step)
        self._apply(step)

    def finish(self):
        """Does steps until none is left."""
        while self._open_steps:
            self._apply(self._open_steps[0])

    def form(self):
        """The form with the items as they are now."""
        items = [Item.single(kind, value, nets, [name]) for name, kind, value, nets in self._singles]
        for strand in self._strands.values():
            first, last = strand.tips
            items.append(Item.branch(strand.told_from(first), first, last, strand.names))
        return Form(self._ports, items, self._gone)

    def _begin(self, name, part):
        """Takes in a part as an item."""
        kind, nets = part.kind, part.nets
        if not kind.is_path:
            self._hold(nets, 1)
            self._singles.append((name, kind, part.value, nets))
        else:
            self._put((name,), nets[:2], nets[2:], ("leaf", kind, part.value))

    def _hold(self, nets, many):
        """Counts ports, pins of singles and control pins on nets, so many for each."""
        for net in nets:
            self._held[net] = self._held.get(net, 0) + many

    def _put(self, names, tips, controls, made):
        """Puts a branch under the least of its names."""
        least = names[0] if len(names) == 1 else min(names, key=str)
        self._strands[least] = Strand(names, tips, controls, made)
        self._hold(controls, 1)
        for net in tips:
            self._ends[net] = [*self._ends.get(net, []), least]

    def _take(self, name):
        """Takes a branch away and returns it."""
        strand = self._strands.pop(name)
        self._hold(strand.controls, -1)
        for net in strand.tips:
            self._ends[net] = [other for other in self._ends[net] if other != name]
        return strand

    def _apply(self, step):
        if step[0] == "row":
            first, second = self._ends[step[1]]
            one, other = self._take(first), self._take(second)
            self._join("row", one, other, (one.far_tip(step[1]), other.far_tip(step[1])))
        elif step[0] == "side":
            one, other = self._take(step[1]), self._take(step[2])
            self._join("side", one, other, one.tips)
        else:
            self._gone = [*self._gone, *self._take(step[1]).names]
        self.trace = (*self.trace, step)
        self._open_steps = _steps_of(self._strands, self._ends, self._held)

    def _join(self, way, one, other, tips):
        """Puts one branch in the place of two."""
        self._put(one.names + other.names, tips, one.controls + other.controls, (way, one, other))


def reduced(circuit):
    """The reduced form of a circuit."""
    reduction = Reduction(circuit)
    reduction.finish()
    return reduction.form()


def lets_trace(circuit, trace, form):
    """Whether trace is a list of steps that leads from a circuit to a form, with no step left there."""
    reduction = Reduction(circuit)
    if not isinstance(trace, list) or not isinstance(form, Form):
        return False
    for step in trace:
        if step not in reduction.steps():
            return False
        reduction.do(step)
    return len(reduction.steps()) == 0 and reduction.form().record == form.record


def _steps_of(strands, ends, held):
    """The steps for some branches, with their ends at each net, and how many other pins and ports hold each net."""
    inner = [net for net in sorted(ends, key=str) if 1 <= len(ends[net]) <= 2 and held.get(net, 0) == 0]
    rows = [("row", net) for net in inner if len(ends[net]) == 2 and ends[net][0] != ends[net][1]]
    looses = [("loose", ends[net][0], net) for net in inner if len(ends[net]) == 1]
    loops = []
    peers = {}
    for name in sorted(strands, key=str):
        first, last = strands[name].tips
        if first == last:
            loops.append(("loop", name))
        else:
            place = (first, last) if first < last else (last, first)
            peers[place] = [*peers.get(place, []), name]
    sides = [("side", one, other) for name in list(peers) for one in peers[name] for other in peers[name]
             if one < other]
    return loops + looses + sorted(set(sides)) + rows
