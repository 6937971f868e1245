"""Circuits written as texts, and read from them."""

from wishedwires.circuits import Circuit
from wishedwires.errors import InvalidCircuit, InvalidText, NameInUse, UnknownName, WireError
from wishedwires.kinds import DirectedJoiningKind, DirectedKind, JoiningKind, PathKind, PinKind
from wishedwires.parts import Part
from wishedwires.ratios import Ratio


def format_circuit(circuit):
    """The text of a circuit."""
    if not isinstance(circuit, Circuit):
        raise InvalidCircuit(circuit)
    kinds = {}
    for _, part in circuit.parts():
        if not isinstance(part.kind, (PinKind, PathKind)):
            raise InvalidCircuit(circuit)
        kinds[part.kind.name] = part.kind.text
    lines = [kinds[name] for name in sorted(kinds, key=str)]
    ports = [f"port {name} {net}" for name, net in circuit.ports.items()]
    parts = [_part_line(name, part) for name, part in circuit.parts()]
    return "\n".join(lines + ports + parts)


def parse(text):
    """The circuit that a text tells."""
    if not isinstance(text, str):
        raise InvalidText(0)
    circuit = Circuit()
    kinds = {}
    lines = text.split("\n") if text else []
    for index, line in enumerate(lines):
        try:
            _take_in(circuit, kinds, line)
        except (WireError, NameInUse, UnknownName):
            raise InvalidText(index) from None
    return circuit


def _part_line(name, part):
    return " ".join(["part", name, part.kind.name, str(part.value)] + list(part.nets))


def _take_in(circuit, kinds, line):
    """Adds what a line tells to the circuit, or to the dict of the kinds so far."""
    words = line.split(" ")
    if words[0] in ("pins", "path"):
        _take_kind(kinds, line)
    elif words[0] == "port" and len(words) == 3:
        if words[1] in circuit.ports:
            raise NameInUse(words[1])
        circuit.set_port(words[1], words[2])
    elif words[0] == "part" and len(words) >= 4:
        _take_part(circuit, kinds, words)
    else:
        raise InvalidText(line)


def _take_kind(kinds, line):
    words, _, tail = line.partition(" : ")
    first, *rest = words.split(" ")
    kind = _pin_kind(rest, tail) if first == "pins" else _path_kind(rest, tail)
    if kind.text != line:
        raise InvalidText(line)
    if kind.name in kinds:
        raise NameInUse(kind.name)
    kinds[kind.name] = kind


def _take_part(circuit, kinds, words):
    _, name, kind, value, *nets = words
    if name in circuit:
        raise NameInUse(name)
    if kind not in kinds:
        raise UnknownName(kind)
    circuit[name] = Part(kinds[kind], Ratio.parse(value), *nets)


def _pin_kind(words, tail):
    """The pin kind with the name and the pins in words, and with the groups in tail."""
    groups = tail.split(" , ") if tail else []
    name, pins = _name_and_rest(words)
    swaps = tuple([tuple(group.split(" ")) for group in groups])
    return PinKind(name, *pins, swaps=swaps)


def _path_kind(words, tail):
    """The path kind with the name and the controls in words; what tail tells wrongly shows in its text."""
    name, controls = _name_and_rest(words)
    told = tail.split(" ")
    row, side = _word_behind("row", told), _word_behind("side", told)
    if row is None and side is None:
        return DirectedKind(name, *controls) if "directed" in told else PathKind(name, *controls)
    if "directed" in told:
        return DirectedJoiningKind(name, *controls, row=row, side=side)
    return JoiningKind(name, *controls, row=row, side=side)


def _name_and_rest(words):
    """The first word, or an empty one, and the list of the others."""
    return (words[0], words[1:]) if words else ("", [])


def _word_behind(word, told):
    """The word that follows another one in a list; None where there is none."""
    index = told.index(word) if word in told else len(told)
    return told[index + 1] if index + 1 < len(told) else None
