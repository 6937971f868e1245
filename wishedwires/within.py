"""Places of one circuit within another one; spots that have no part in common, with papers."""

from wishedwires.checks import is_name
from wishedwires.circuits import Circuit
from wishedwires.colours import tally
from wishedwires.errors import InvalidCircuit, InvalidPaper, LimitExceeded
from wishedwires.matching import Matching

MOST_PATTERN_PARTS = 6
MOST_PARTS = 40
MOST_SPOTS = 14


class Search:
    """A pattern and a circuit: where each part of the pattern may be carried to.

    A choice is (name of a part of the circuit, its nets in the order of the pattern part's pins), one for each unlike
    tuple of nets that the exchanges of the kind give.
    """

    def __init__(self, pattern, circuit):
        self.part_nets = {name: part.nets for name, part in pattern.parts()}
        self.choices = {}
        told = [(name, part.kind.text, part.value, _writings(part)) for name, part in circuit.parts()]
        for name, part in pattern.parts():
            fitting = [row for row in told if row[1] == part.kind.text and row[2] == part.value]
            self.choices[name] = [(row[0], nets) for row in fitting for nets in row[3]]
        self.free = _nets_with_ports(pattern)
        self.pins = _pin_counts(pattern)
        ported = _nets_with_ports(circuit)
        counts = _pin_counts(circuit)
        self.pins_there = {net: counts[net] for net in counts if net not in ported}
        self.order = _order(self.part_nets, {name: len(rows) for name, rows in self.choices.items()})
        self.tables = self._tables()

    def fitting(self, index, nets, parts):
        """The further nets and the name of the part, for all to which the next part of the order may be carried."""
        pattern_nets = self.part_nets[self.order[index]]
        known = [pin for pin, net in enumerate(pattern_nets) if net in nets]
        pin = known[0] if known else None
        key = None if pin is None else nets[pattern_nets[pin]]
        found = []
        for name, there in self.tables[index][pin].get(key, []):
            if name not in parts:
                further = self._further(pattern_nets, there, nets)
                if further is not None:
                    found.append((further, name))
        return found

    def _further(self, pattern_nets, there, nets):
        """The nets, with what is new, that carry a part's nets to others; None if they can't be carried there."""
        further = nets
        taken = list(nets.values())
        for net, place in zip(pattern_nets, there):
            if net in further:
                if further[net] != place:
                    return None
            elif place in taken or (net not in self.free and self.pins_there.get(place, 0) != self.pins[net]):
                return None
            else:
                further = {**further, net: place}
                taken.append(place)
        return further

    def _tables(self):
        """For each part in the order a dict from a pin, or None, to dicts from the net there, or None, to choices."""
        tables = []
        for name in self.order:
            table = {None: {None: self.choices[name]}}
            for pin in range(len(self.part_nets[name])):
                rows = {}
                for choice in self.choices[name]:
                    rows.setdefault(choice[1][pin], []).append(choice)
                table[pin] = rows
            tables.append(table)
        return tables


def places(pattern, circuit):
    """The places of a pattern in a circuit, in their order."""
    for nets, parts in _found(pattern, circuit):
        yield Matching(nets, parts)


def spots(pattern, circuit):
    """The sorted list of the spots of a pattern in a circuit."""
    rows = [list(parts.values()) for _, parts in _found(pattern, circuit)]
    return sorted(set([tuple(sorted(names, key=str)) for names in rows]))


def most_apart(some):
    """A list of as many spots as possible that are apart."""
    _check_spots(some)
    return _most(list(some))


def apart_paper(some, many):
    """A paper that no more than so many of some spots are apart, or None if more are."""
    _check_spots(some)
    return None if len(_most(list(some))) > many else _paper(list(some), many)


def lets_apart(some, many, paper):
    """Whether any value is a paper that no more than so many of some spots are apart."""
    _check_spots(some)
    return _holds(list(some), many, paper)


def _check_circuit(circuit, least, most):
    """InvalidCircuit unless a value is a circuit of at least so many parts, LimitExceeded if it has too many."""
    if not isinstance(circuit, Circuit) or len(circuit) < least:
        raise InvalidCircuit(circuit)
    if len(circuit) > most:
        raise LimitExceeded(len(circuit))


def _writings(part):
    """The unlike tuples of nets that the exchanges of its kind make of a part's nets."""
    nets = part.nets
    return sorted(set([tuple([nets[pin] for pin in order]) for order in part.kind.exchanges()]))


def _nets_with_ports(circuit):
    return list(circuit.ports.values())


def _pin_counts(circuit):
    """How many pins of parts are on each net."""
    counts = {}
    for _, part in circuit.parts():
        for net in part.nets:
            counts[net] = counts.get(net, 0) + 1
    return counts


def _order(part_nets, counts):
    """The parts of a pattern in the order in which they are carried: those with nets of earlier ones come first."""
    order, nets = [], []
    left = list(part_nets)
    while left:
        best = left[0]
        for name in left:
            mine, most = [len([net for net in part_nets[one] if net in nets]) for one in (name, best)]
            if mine > most or (mine == most and counts[name] < counts[best]):
                best = name
        order.append(best)
        nets = nets + list(part_nets[best])
        left = [name for name in left if name != best]
    return order


def _found(pattern, circuit):
    """The places as pairs of dicts of nets and of parts, in their order."""
    _check_circuit(pattern, 1, MOST_PATTERN_PARTS)
    _check_circuit(circuit, 0, MOST_PARTS)
    search = Search(pattern, circuit)
    rows = [({}, {})]
    for index, name in enumerate(search.order):
        rows = [(further, {**parts, name: there}) for nets, parts in rows
                for further, there in search.fitting(index, nets, list(parts.values()))]
    nets = sorted(search.pins, key=str)
    names = pattern.part_names()
    keys = [(tuple([row[0][net] for net in nets]), tuple([row[1][name] for name in names]), index)
            for index, row in enumerate(rows)]
    return [rows[index] for _, _, index in sorted(set(keys))]


def _check_spots(some):
    """InvalidPaper unless a value is a list of tuples of one or more names, LimitExceeded if they are too many."""
    if not isinstance(some, list) or not all([isinstance(spot, tuple) and len(spot) > 0 for spot in some]):
        raise InvalidPaper(some)
    if not all([is_name(name) for spot in some for name in spot]):
        raise InvalidPaper(some)
    if len(some) > MOST_SPOTS:
        raise LimitExceeded(len(some))


def _meet(one, other):
    """Whether two spots have a part in common."""
    return any([name in other for name in one])


def _most(left):
    """As many of some spots as possible that are apart: with the one that meets fewest others, or without it.

    Without it need not be tried if it meets one other at most, as it may stand in the place of that one.
    """
    if not left:
        return []
    counts = [len([other for other in left if _meet(spot, other)]) for spot in left]
    index = counts.index(min(counts, key=int))
    spot = left[index]
    best = [spot] + _most([other for other in left if not _meet(spot, other)])
    if counts[index] > 2:
        without = _most(left[:index] + left[index + 1:])
        if len(without) > len(best):
            return without
    return best


def _paper(left, many):
    """A paper that no more than so many of some spots are apart, which is true."""
    names = _touching(left, many)
    if names is not None:
        return ("touch", tuple(names))
    counts = [len([other for other in left if _meet(spot, other)]) for spot in left]
    index = counts.index(max(counts, key=int))
    others = left[:index] + left[index + 1:]
    apart = [other for other in others if not _meet(left[index], other)]
    return ("spot", left[index], _paper(apart, many - 1), _paper(others, many))


def _touching(left, many):
    """So many names at most that each spot has one of them, or None if there are none."""
    if not left:
        return [] if many >= 0 else None
    if many <= 0 or many * max(list(_shares(left).values()), key=int) < len(left):
        return None
    first = min(left, key=len)
    tried = []
    for name in sorted(set(first)):
        rest = [spot for spot in left if name not in spot]
        if rest not in tried:
            tried.append(rest)
            names = _touching(rest, many - 1)
            if names is not None:
                return [name, *names]
    return None


def _shares(left):
    """How many of some spots have each of their names."""
    return tally([name for spot in left for name in sorted(set(spot))])


def _holds(left, many, paper):
    """Whether any value is a paper that no more than so many of some spots are apart."""
    if not isinstance(paper, tuple) or not paper:
        return False
    if paper[0] == "touch" and len(paper) == 2:
        if not isinstance(paper[1], tuple) or len(paper[1]) > many:
            return False
        return all([_meet(paper[1], spot) for spot in left])
    if paper[0] != "spot" or len(paper) != 4 or paper[1] not in left:
        return False
    index = left.index(paper[1])
    others = left[:index] + left[index + 1:]
    apart = [other for other in others if not _meet(paper[1], other)]
    return _holds(apart, many - 1, paper[2]) and _holds(others, many, paper[3])
