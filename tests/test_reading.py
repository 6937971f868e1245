"""Point 10: circuits as texts."""

from itertools import permutations

from wishedwires.circuits import Circuit
from wishedwires.errors import InvalidCircuit, InvalidText
from wishedwires.kinds import DirectedJoiningKind, DirectedKind, JoiningKind, Kind, PathKind, PinKind
from wishedwires.parts import Part
from wishedwires.ratios import Ratio
from wishedwires.reading import format_circuit, parse
from tests.helper import Case, ODD, WRONG_NAMES, WRONG_WORDS

KINDS = (
    PinKind("one", "m"), PinKind("amp", "p", "q", "o", swaps=(("q", "p"),)),
    PinKind("six", "f", "e", "d", "c", "b", "a", swaps=(("a", "b"), ("c", "f", "e"))),
    PathKind("path"), PathKind("sw", "g", "h", "k"), DirectedKind("dio"), DirectedKind("tri", "g"),
    JoiningKind("res", row="sum", side="inverse"), JoiningKind("cap", "g", side="sum"), JoiningKind("row", row="inverse"),
    DirectedJoiningKind("led", row="sum"), DirectedJoiningKind("pins", "a1", side="sum", row="sum"),
)
TEXT = """pins amp p q o : p q
path res : row sum side inverse
port in a
port b a
port out c/d
part a/b res 5/2 a c/d
part t amp 3 a a c/d
part u res 1 c/d x"""


def one_of_each():
    parts = {}
    for index, kind in enumerate(KINDS):
        parts[f"t{index}"] = Part(kind, Ratio(index + 1, 3), *[f"n{at}" for at in range(len(kind.pins))])
    return Circuit({"z": "n1", "p": "n0", "part": "w/v"}, parts)


class FormatTest(Case):
    def test_empty(self):
        self.assertEqual(format_circuit(Circuit()), "")

    def test_order_of_lines(self):
        amp, res = PinKind("amp", "p", "q", "o", swaps=(("q", "p"),)), JoiningKind("res", row="sum", side="inverse")
        parts = {"u": Part(res, 1, "c/d", "x"), "t": Part(amp, 3, "a", "a", "c/d"), "a/b": Part(res, Ratio(5, 2), "a", "c/d")}
        circuit = Circuit({"in": "a", "b": "a", "out": "c/d"}, parts)
        self.assertEqual(format_circuit(circuit), TEXT)
        circuit.set_port("in", "x")
        self.assertEqual(format_circuit(circuit), TEXT.replace("port in a", "port in x"))

    def test_only_ports(self):
        self.assertEqual(format_circuit(Circuit({"q": "a", "p": "a"})), "port q a\nport p a")

    def test_wrong(self):
        for wrong in (*ODD, 3, "", TEXT, KINDS[0]):
            self.fails(InvalidCircuit, wrong, format_circuit, wrong)
        odd = Circuit({}, {"t": Part(KINDS[0], 1, "a"), "u": Part(Kind("odd"), 1)})
        self.fails(InvalidCircuit, odd, format_circuit, odd)


class ParseTest(Case):
    def wrong(self, index, *lines):
        self.fails(InvalidText, index, parse, "\n".join(lines))

    def test_there_and_back(self):
        for circuit in (Circuit(), one_of_each(), Circuit({"q": "a", "p": "a"})):
            found = parse(format_circuit(circuit))
            self.assertEqual([found, list(found.ports)], [circuit, list(circuit.ports)])
        self.assertEqual(format_circuit(parse(TEXT)), TEXT)

    def test_kinds(self):
        for kind in KINDS:
            nets = [f"n{at}" for at in range(len(kind.pins))]
            found = parse(f"{kind.text}\npart t {kind.name} 1 {' '.join(nets)}")["t"].kind
            self.assertEqual(found, kind)
            self.assertEqual([type(found), found.orders, found.pins], [type(kind), kind.orders, kind.pins])
            if isinstance(kind, JoiningKind):
                self.assertEqual(found.rules(), kind.rules())

    def test_any_order(self):
        lines = ["path res", "part t res 1 a b", "port p a", "pins one m", "part u one 2 b"]
        circuit = parse("\n".join(lines))
        for order in permutations(lines):
            text = "\n".join(order)
            if order.index(lines[0]) < order.index(lines[1]) and order.index(lines[3]) < order.index(lines[4]):
                self.assertEqual(parse(text), circuit)
            else:
                self.assertRaises(InvalidText, parse, text)
        ported = parse("port q a\npath res\nport p b")
        self.assertEqual([list(ported.ports), len(ported)], [["q", "p"], 0])

    def test_a_kind_that_no_part_uses(self):
        self.assertEqual(parse("path res\npins one m"), Circuit())
        self.wrong(1, "path res", "path res")
        self.wrong(1, "path res", "pins res m")

    def test_lines_twice(self):
        self.wrong(1, "port p a", "port p a")
        self.wrong(2, "port p a", "port q a", "port p b")
        self.wrong(2, "path res", "part t res 1 a b", "part t res 2 b c")
        self.assertEqual(len(parse("path res\nport res res\npart res res 1 res res")), 1)

    def test_a_part_ahead_of_its_kind(self):
        self.wrong(0, "part t res 1 a b", "path res")
        self.wrong(1, "port p a", "part t res 1 a b")

    def test_no_text(self):
        for wrong in (*ODD, 3, Circuit()):
            self.fails(InvalidText, 0, parse, wrong)

    def test_lines_that_are_wrong_by_themselves(self):
        lines = TEXT.split("\n")
        for wrong in ("", " ", "x", "kind res", "port", "port x", "port x y z", "Port x y", "port  x y", " port x y", "port x y ",
                      "part", "part v", "part v res", "part v res 1", "part v res 1 a", "part v res 1 a b c", "part v res  1 a b",
                      "part v res 1 a b ", "part v res 0 a b", "part v res -1 a b", "part v res 2/4 a b", "part v res +1 a b",
                      "part v res 1.5 a b", "part v res x a b", "part v none 1 a b", "port x/y a", "port\tx y", "port x y\r",
                      "part v res 1/0 a b", "part v res " + "1" * 61 + " a b", "block v a b",
                      "block v res 1 a b", "Part v res 1 a b", "port v res 1 a b", "path v res 1 a b"):
            for at in (0, 3, len(lines)):
                self.wrong(at, *lines[:at], wrong, *lines[at:])
        self.assertEqual(len(parse("\n".join(lines + ["part v res " + "1" * 60 + " a b"]))), 4)

    def test_wrong_names(self):
        for wrong in [name for name in WRONG_NAMES if isinstance(name, str) and "\n" not in name]:
            self.wrong(1, "path res", f"part {wrong} res 1 a b")
            self.wrong(1, "path res", f"part t res 1 a {wrong}")
            self.wrong(0, f"port p {wrong}")
        for wrong in [name for name in WRONG_WORDS if isinstance(name, str) and "\n" not in name and name != "a b"]:
            self.wrong(0, f"port {wrong} a")
            self.wrong(0, f"path {wrong}")
            self.wrong(0, f"pins {wrong} m")
            self.wrong(0, f"pins k {wrong}")

    def test_lines_of_kinds_that_are_not_their_text(self):
        for wrong in ("path", "path ", "pins", "pins x", "path x :", "path x : ", "pins x m :", "pins x m : ", "path x a",
                      "path x g g", "path x c d e f", "pins x m m", "pins x a b c d e f g", "path x : row", "path x : row max",
                      "path x : side sum row sum", "path x : row sum directed", "path x : directed directed",
                      "path x : row sum row sum", "path x : none", "path x : row sum side", "path x : directed row",
                      "path x : side row sum", "path x : row side sum", "path x g: directed", "path x :directed",
                      "pins x m n : n m", "pins x m n : m", "pins x m n o : m n o m", "pins x a b c d : c d , a b",
                      "pins x a b c d : a b ,c d", "pins x a b c d : a b , b c", "pins x a b c d : a b ,", "pins x a b : a c",
                      "pins x a b c d : a b , , c d", "pins x a b : a b : a b", "pins : a b", "path : directed"):
            self.wrong(0, wrong)

    def test_trailing_newline(self):
        self.wrong(0, "", "")
        self.wrong(1, "port p a", "")
        self.wrong(0, "", "port p a")
        self.wrong(1, "port p a", "", "port q a")
