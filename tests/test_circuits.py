"""Points 8 and 9: circuits, joining them, and taking parts of them."""

from wishedwires.circuits import Circuit
from wishedwires.errors import InvalidCircuit, InvalidKind, InvalidName, NameInUse, UnknownName
from wishedwires.kinds import PathKind, PinKind
from wishedwires.parts import Part
from tests.helper import Case, NAMES, NO_PARTS, ODD, WORDS, WRONG_NAMES, WRONG_WORDS, told

TWO = PinKind("two", "m", "n", swaps=(("m", "n"),))
OTHER_TWO = PinKind("two", "m", "n")
PATH = PathKind("path", "g")


def two(*nets, value=1):
    return Part(TWO, value, *nets)


def sample():
    return Circuit({"q": "b", "p": "a", "r": "a"}, {"t2": two("b", "c/d"), "t1": Part(PATH, 2, "a", "b", "e")})


class MakingTest(Case):
    def test_empty(self):
        for circuit in (Circuit(), Circuit(None, None), Circuit({}, {}), Circuit(ports={}), Circuit(parts={})):
            self.assertEqual([circuit.ports, circuit.part_names(), circuit.all_nets(), len(circuit)], [{}, [], [], 0])
            self.assertEqual(circuit, Circuit())

    def test_what_is_kept(self):
        ports, part = {"p": "a"}, two("a", "b")
        parts = {"t": part}
        circuit = Circuit(ports, parts)
        ports["q"] = "b"
        part["m"] = "z"
        part.value = 5
        parts["u"] = part
        self.assertEqual([circuit.ports, circuit.part_names()], [{"p": "a"}, ["t"]])
        self.assertEqual(circuit["t"], two("a", "b"))

    def test_one_part_under_two_names(self):
        part = two("a", "b")
        circuit = Circuit({}, {"t": part, "u": part})
        circuit["t"]["m"] = "c"
        self.assertEqual([circuit["t"].nets, circuit["u"].nets], [("c", "b"), ("a", "b")])

    def test_wrong_ports(self):
        for wrong in ([value for value in NO_PARTS if value is not None and not isinstance(value, dict)]):
            self.fails(InvalidCircuit, wrong, Circuit, wrong, 3)
        for wrong in WRONG_NAMES:
            ports = {"p": "a", "q": wrong}
            self.fails(InvalidCircuit, ports, Circuit, ports, 3)
        for wrong in [name for name in WRONG_WORDS if not isinstance(name, (list, dict))]:
            ports = {"p": "a", wrong: "a"}
            self.fails(InvalidCircuit, ports, Circuit, ports, {"A": 3})

    def test_wrong_parts(self):
        for wrong in ([value for value in NO_PARTS if value is not None and not isinstance(value, dict)]):
            self.fails(InvalidCircuit, wrong, Circuit, {}, wrong)
        for wrong in [name for name in WRONG_NAMES if not isinstance(name, (list, dict))]:
            self.fails(InvalidName, wrong, Circuit, {}, {"t": two("a", "b"), wrong: 3, "u": 4})
        for wrong in NO_PARTS:
            self.fails(InvalidCircuit, wrong, Circuit, {}, {"t": two("a", "b"), "u": wrong, "A": 3})

    def test_unlike_kinds(self):
        odd = Part(OTHER_TWO, 1, "a", "b")
        self.fails(InvalidKind, OTHER_TWO, Circuit, {}, {"z": two("a", "b"), "t": odd})
        self.fails(InvalidKind, TWO, Circuit, {}, {"z": odd, "t": two("a", "b")})
        self.fails(InvalidCircuit, 3, Circuit, {}, {"z": odd, "t": two("a", "b"), "u": 3})
        third = PathKind("two")
        self.fails(InvalidKind, third, Circuit, {}, {"z": odd, "y": Part(third, 1, "a", "b"), "t": two("a", "b")})
        like = Part(PinKind("two", "m", "n", swaps=(("n", "m"),)), 1, "a", "b")
        self.assertEqual(len(Circuit({}, {"z": two("a", "b"), "t": like})), 2)


class PortsTest(Case):
    def test_ports_are_copies_in_order(self):
        circuit = sample()
        self.assertEqual(list(circuit.ports.items()), [("q", "b"), ("p", "a"), ("r", "a")])
        circuit.ports["z"] = "a"
        circuit.ports.clear()
        self.assertEqual(len(circuit.ports), 3)

    def test_set_port(self):
        circuit = sample()
        circuit.set_port("a", "new/net")
        circuit.set_port("p", "x")
        self.assertEqual(list(circuit.ports.items()), [("q", "b"), ("p", "x"), ("r", "a"), ("a", "new/net")])
        for name in WORDS:
            circuit.set_port(name, NAMES[-1])
            self.assertEqual(circuit.ports[name], NAMES[-1])

    def test_set_wrong_port(self):
        circuit = sample()
        for wrong in WRONG_WORDS:
            self.keeps(circuit, InvalidName, wrong, circuit.set_port, wrong, "A")
        for wrong in WRONG_NAMES:
            self.keeps(circuit, InvalidName, wrong, circuit.set_port, "p", wrong)
            self.keeps(circuit, InvalidName, wrong, circuit.set_port, "new", wrong)

    def test_drop_port(self):
        circuit = sample()
        circuit.drop_port("p")
        self.assertEqual(list(circuit.ports.items()), [("q", "b"), ("r", "a")])
        for wrong in (*ODD, "p", "a", "", 3):
            self.keeps(circuit, UnknownName, wrong, circuit.drop_port, wrong)
        circuit.set_port("p", "c")
        self.assertEqual(list(circuit.ports), ["q", "r", "p"])


class PartsTest(Case):
    def test_kept_part(self):
        circuit = sample()
        circuit["t2"]["n"] = "w"
        circuit["t2"].value = 7
        self.assertEqual([circuit["t2"], circuit.all_nets()], [two("b", "w", value=7), ["a", "b", "e", "w"]])
        self.assertIs(circuit["t2"], circuit["t2"])
        for wrong in (*ODD, "t", "p", "", 3):
            self.keeps(circuit, UnknownName, wrong, lambda: circuit[wrong])

    def test_put(self):
        circuit, part = sample(), two("x", "y")
        circuit["u/v"] = part
        circuit["t1"] = part
        part["m"] = "z"
        self.assertEqual([circuit["u/v"], circuit["t1"], len(circuit)], [two("x", "y"), two("x", "y"), 3])
        self.assertIsNot(circuit["u/v"], circuit["t1"])

    def test_put_wrong(self):
        circuit = sample()
        for wrong in WRONG_NAMES:
            self.keeps(circuit, InvalidName, wrong, circuit.__setitem__, wrong, 3)
        for wrong in (*NO_PARTS, TWO, circuit):
            self.keeps(circuit, InvalidCircuit, wrong, circuit.__setitem__, "t1", wrong)
        odd = Part(OTHER_TWO, 1, "a", "b")
        self.keeps(circuit, InvalidKind, OTHER_TWO, circuit.__setitem__, "new", odd)
        self.keeps(circuit, InvalidKind, OTHER_TWO, circuit.__setitem__, "t1", odd)
        self.keeps(circuit, InvalidName, "A", circuit.__setitem__, "A", odd)

    def test_put_in_the_place_of_the_only_part_of_a_kind(self):
        circuit, odd = sample(), Part(OTHER_TWO, 1, "a", "b")
        circuit["t2"] = odd
        self.assertEqual(circuit["t2"], odd)
        self.keeps(circuit, InvalidKind, TWO, circuit.__setitem__, "t1", two("a", "b"))

    def test_take_out(self):
        circuit = sample()
        kept = circuit["t2"]
        part = circuit.take_out("t2")
        self.assertIs(part, kept)
        part["m"] = "zz"
        self.assertEqual([circuit.part_names(), circuit.all_nets(), "t2" in circuit], [["t1"], ["a", "b", "e"], False])
        for wrong in (*ODD, "t2", "p", 3):
            self.keeps(circuit, UnknownName, wrong, circuit.take_out, wrong)
        circuit["t2"] = Part(OTHER_TWO, 1, "a", "b")
        self.assertEqual(len(circuit), 2)

    def test_contains(self):
        circuit = sample()
        self.assertEqual(["t1" in circuit, "t2" in circuit, "t" in circuit, "p" in circuit], [True, True, False, False])
        for value in (*ODD, 3, circuit):
            self.assertFalse(value in circuit)
        self.assertRaises(TypeError, iter, circuit)

    def test_lists(self):
        circuit = Circuit({"q": "z"}, {"b": two("x", "y"), "a/b": two("x", "x"), "a1": two("w/v", "y"), "a": two("x", "k")})
        self.assertEqual(circuit.part_names(), ["a", "a/b", "a1", "b"])
        self.assertEqual([name for name, _ in circuit.parts()], ["a", "a/b", "a1", "b"])
        for name, part in circuit.parts():
            self.assertIs(part, circuit[name])
        self.assertEqual(iter(steps := circuit.parts()), steps)
        self.assertEqual(circuit.all_nets(), ["k", "w/v", "x", "y", "z"])
        circuit.part_names().clear()
        circuit.all_nets().clear()
        self.assertEqual([len(circuit), len(circuit.all_nets())], [4, 5])

    def test_pins_at(self):
        kind = PinKind("three", "z", "m", "k")
        circuit = Circuit({"p": "x"}, {"u": Part(kind, 1, "x", "y", "x"), "a/b": Part(kind, 1, "x", "x", "w")})
        self.assertEqual(circuit.pins_at("x"), [("a/b", "m"), ("a/b", "z"), ("u", "k"), ("u", "z")])
        self.assertEqual([circuit.pins_at("y"), circuit.pins_at("v"), circuit.pins_at("p")], [[("u", "m")], [], []])
        for value in (*ODD, 3, circuit):
            self.assertEqual(circuit.pins_at(value), [])

    def test_copied(self):
        circuit = sample()
        other = circuit.copied()
        self.assertEqual([other, list(other.ports)], [circuit, ["q", "p", "r"]])
        other["t1"].value = 9
        other.set_port("q", "w")
        other.take_out("t2")
        self.assertEqual(circuit, sample())

    def test_equal(self):
        self.assertEqual(sample(), sample())
        other = Circuit({"p": "a", "q": "b", "r": "a"}, {"t1": sample()["t1"], "t2": sample()["t2"]})
        self.assertEqual(sample(), other)
        other["t1"].value = 3
        self.assertNotEqual(sample(), other)
        other = sample()
        other.set_port("q", "w")
        self.assertNotEqual(sample(), other)
        self.assertNotEqual(sample(), Circuit({"q": "b", "p": "a"}, {"t1": sample()["t1"], "t2": sample()["t2"]}))
        for value in (*ODD, 3, "t1"):
            self.assertFalse(sample() == value)


class JoiningTest(Case):
    def setUp(self):
        self.one = Circuit({"p": "a", "q": "b"}, {"t": two("a", "c")})
        self.other = Circuit({"s": "y", "q": "x", "r": "x"}, {"u": two("x", "y"), "v": two("y", "z/w")})

    def wanted(self):
        parts = {"t": two("a", "c"), "u": two("b", "y"), "v": two("y", "z/w")}
        return Circuit({"p": "a", "q": "b", "s": "y", "r": "b"}, parts)

    def test_sum(self):
        joined = self.one + self.other
        self.assertEqual([joined, list(joined.ports)], [self.wanted(), ["p", "q", "s", "r"]])
        joined["t"].value = 5
        joined["u"].value = 5
        joined.drop_port("p")
        self.assertEqual([self.one["t"].value, self.other["u"].value, len(self.one.ports)], [1, 1, 2])

    def test_sum_in_place(self):
        one, kept, before = self.one, self.one["t"], told(self.other)
        self.one += self.other
        self.assertIs(self.one, one)
        self.assertIs(one["t"], kept)
        self.assertEqual([one, list(one.ports), told(self.other)], [self.wanted(), ["p", "q", "s", "r"], before])
        one["u"].value = 8
        self.assertEqual(self.other["u"].value, 1)

    def test_nets_of_the_other_become_one(self):
        one = Circuit({"p": "a", "q": "a"}, {})
        joined = one + Circuit({"p": "x", "q": "y"}, {"t": two("x", "y")})
        self.assertEqual(joined, Circuit({"p": "a", "q": "a"}, {"t": two("a", "a")}))

    def test_joined_net_with_the_name_of_another_net(self):
        joined = self.one + Circuit({"q": "a", "p": "c"}, {"u": two("a", "c")})
        self.assertEqual(joined["u"].nets, ("b", "a"))

    def test_no_ports_in_common(self):
        joined = self.one + Circuit({"s": "k"}, {"u": two("k", "l")})
        self.assertEqual([joined.all_nets(), list(joined.ports)], [["a", "b", "c", "k", "l"], ["p", "q", "s"]])
        self.assertEqual(self.one + Circuit(), self.one)
        self.assertEqual(Circuit() + self.one, self.one)

    def test_with_itself(self):
        ports = Circuit({"p": "a", "q": "a"}, {})
        same = ports
        ports += ports
        self.assertIs(ports, same)
        self.assertEqual(ports, Circuit({"p": "a", "q": "a"}, {}))
        self.keeps(self.one, NameInUse, "t", lambda: self.one + self.one)
        self.keeps(self.one, NameInUse, "t", self.one.__iadd__, self.one)

    def both_fail(self, error, given, other):
        before = told(other) if isinstance(other, Circuit) else None
        self.keeps(self.one, error, given, lambda: self.one + other)
        self.keeps(self.one, error, given, self.one.__iadd__, other)
        self.assertEqual(told(other) if isinstance(other, Circuit) else None, before)

    def test_no_circuit(self):
        for wrong in (*ODD, 3, self.one["t"]):
            self.both_fail(InvalidCircuit, wrong, wrong)

    def test_a_net_that_would_become_two(self):
        split = Circuit({"p": "x", "q": "x"}, {"t": Part(OTHER_TWO, 1, "c", "x")})
        self.both_fail(InvalidCircuit, split, split)

    def test_names_in_use(self):
        odd = Part(OTHER_TWO, 1, "c", "x")
        self.one["s"] = two("a", "a")
        self.both_fail(NameInUse, "s", Circuit({"q": "x"}, {"t": odd, "s": odd}))
        self.both_fail(NameInUse, "a", Circuit({"s": "c", "q": "x"}, {"u": Part(OTHER_TWO, 1, "c", "a")}))
        self.both_fail(NameInUse, "b", Circuit({"z": "b"}, {}))

    def test_unlike_kinds(self):
        self.both_fail(InvalidKind, OTHER_TWO, Circuit({"q": "x"}, {"u": Part(OTHER_TWO, 1, "x", "x")}))
        self.assertEqual(len(Circuit({}, {}) + Circuit({}, {"u": Part(OTHER_TWO, 1, "x", "x")})), 1)


class TakingTest(Case):
    def setUp(self):
        # a -t- b -u- c -v- d/e, and w between b and a
        parts = {"t": two("a", "b"), "u": two("b", "c"), "v": two("c", "d/e"), "w": two("b", "a")}
        self.circuit = Circuit({"q": "d/e", "p": "a", "r": "a", "s": "alone"}, parts)

    def test_ports_that_stay_and_ports_that_come(self):
        taken = self.circuit & ["u", "t"]
        self.assertEqual(list(taken.ports.items()), [("p", "a"), ("r", "a"), ("b", "b"), ("c", "c")])
        self.assertEqual(taken.part_names(), ["t", "u"])
        self.assertEqual(self.circuit - ["w", "v"], taken)
        self.assertEqual(list((self.circuit - ["w", "v"]).ports), list(taken.ports))

    def test_all_and_none(self):
        self.assertEqual(self.circuit & [], Circuit())
        self.assertEqual(self.circuit - ["t", "u", "v", "w"], Circuit())
        rest = self.circuit - []
        self.assertEqual(list(rest.ports.items()), [("q", "d/e"), ("p", "a"), ("r", "a")])
        self.assertEqual(rest, self.circuit & ["w", "v", "u", "t", "t"])
        self.assertEqual(len(rest), 4)

    def test_new_parts(self):
        taken = self.circuit & ["u"]
        taken["u"].value = 9
        taken.drop_port("b")
        self.assertEqual([self.circuit["u"].value, len(self.circuit.ports)], [1, 4])

    def test_a_net_with_a_port_does_not_become_one(self):
        taken = self.circuit & ["t"]
        self.assertEqual(taken.ports, {"p": "a", "r": "a", "b": "b"})

    def test_put_together_again(self):
        for names in ([], ["t"], ["t", "u"], ["v", "w"], ["u"]):
            joined = (self.circuit & names) + (self.circuit - names)
            self.assertEqual([joined[name] for name in "tuvw"], [self.circuit[name] for name in "tuvw"])

    def test_no_list(self):
        for wrong in ([value for value in ODD if not isinstance(value, list)] + ["t", ("t",), 3, self.circuit]):
            self.keeps(self.circuit, InvalidCircuit, wrong, lambda: self.circuit & wrong)
            self.keeps(self.circuit, InvalidCircuit, wrong, lambda: self.circuit - wrong)

    def test_unknown_names(self):
        for wrong in (*ODD, "p", "", "z", 3):
            self.keeps(self.circuit, UnknownName, wrong, lambda: self.circuit & ["t", wrong, "y"])
            self.keeps(self.circuit, UnknownName, wrong, lambda: self.circuit - ["t", wrong, "y"])

    def test_nets_that_can_not_become_ports(self):
        long = Circuit({"p": "a"}, {"t": two("a", "x/y"), "u": two("x/y", "z"), "v": two("z", "b/c"), "w": two("b/c", "b/c")})
        self.keeps(long, InvalidName, "x/y", lambda: long & ["u"])
        self.keeps(long, InvalidName, "b/c", lambda: long - ["v"])
        self.keeps(long, InvalidName, "b/c", lambda: long & ["v", "t"])
        self.assertEqual((long & ["v", "w"]).ports, {"z": "z"})

    def test_nets_with_the_name_of_a_port_that_is_kept(self):
        crossed = Circuit({"x": "y", "k": "l"}, {"t": two("y", "x"), "u": two("x", "k"), "v": two("k", "l"), "w": two("m", "m")})
        self.keeps(crossed, NameInUse, "x", lambda: crossed & ["t"])
        self.keeps(crossed, NameInUse, "k", lambda: crossed - ["t", "u"])
        self.assertEqual((crossed & ["u"]).ports, {"k": "k", "x": "x"})
        self.assertEqual(crossed["u"].nets, ("x", "k"))
        self.keeps(crossed, UnknownName, "z", lambda: crossed & ["t", "z"])

    def test_the_least_wrong_net_is_told(self):
        parts = {"t": two("m", "c/d"), "u": two("c/d", "q"), "v": two("q", "m"), "w": two("a/b", "k"), "z": two("k", "a/b")}
        circuit = Circuit({"q": "m"}, parts)
        self.keeps(circuit, InvalidName, "a/b", lambda: circuit & ["t", "v", "w"])
        self.keeps(circuit, NameInUse, "q", lambda: circuit & ["v"])
        self.keeps(circuit, InvalidName, "c/d", lambda: circuit - ["v", "u", "z", "w"])
