"""Point 7: parts."""

from wishedwires.errors import InvalidKind, InvalidName, InvalidPins, NotPositive, UnknownName
from wishedwires.kinds import JoiningKind, PathKind, PinKind
from wishedwires.parts import Part
from wishedwires.ratios import Ratio
from tests.helper import Case, NAMES, ODD, WRONG_NAMES

AMP = PinKind("amp", "p", "q", "o", swaps=(("p", "q"),))
SWITCH = PathKind("sw", "g")
NO_VALUES = (*ODD, "1", 0, -3, Ratio(0), Ratio(-1, 2))


class PartTest(Case):
    def setUp(self):
        self.part = Part(AMP, Ratio(3, 2), "x", "y", "u/z")

    def test_attributes(self):
        self.assertIs(self.part.kind, AMP)
        self.assertEqual([self.part.value, self.part.nets, len(self.part)], [Ratio(3, 2), ("x", "y", "u/z"), 3])
        whole = Part(SWITCH, 4, "x", "x", "x")
        self.assertIsInstance(whole.value, Ratio)
        self.assertEqual([whole.value, whole.nets, len(Part(PinKind("one", "m"), 1, "x"))], [4, ("x", "x", "x"), 1])

    def test_every_name_is_a_net(self):
        for net in NAMES:
            self.assertEqual(Part(PinKind("one", "m"), 1, net)["m"], net)

    def test_wrong_arguments(self):
        for wrong in (*ODD, "amp", 3, PathKind):
            self.fails(InvalidKind, wrong, Part, wrong, 0, "X")
        for wrong in NO_VALUES:
            self.fails(NotPositive, wrong, Part, AMP, wrong, "X")
        for nets in ((), ("x", "y"), ("x", "y", "z", "z")):
            self.fails(InvalidPins, nets, Part, AMP, 1, *nets)
        for wrong in WRONG_NAMES:
            self.fails(InvalidPins, ("x", wrong, "z"), Part, AMP, 1, "x", wrong, "z")

    def test_set_value(self):
        self.part.value = 7
        self.assertEqual([self.part.value, type(self.part.value)], [7, Ratio])
        self.part.set_value(Ratio(1, 3))
        self.assertEqual(self.part.value, Ratio(1, 3))
        for wrong in NO_VALUES:
            self.fails(NotPositive, wrong, self.part.set_value, wrong)
            self.fails(NotPositive, wrong, setattr, self.part, "value", wrong)
        self.assertEqual(self.part, Part(AMP, Ratio(1, 3), "x", "y", "u/z"))

    def test_set_nets(self):
        nets = ["a", "b", "c"]
        self.part.nets = nets
        nets[0] = "z"
        self.assertEqual(self.part.nets, ("a", "b", "c"))
        self.part.nets = ("d", "e", "f")
        self.assertEqual(self.part.nets, ("d", "e", "f"))
        self.part.set_nets("g", "h", "g")
        self.assertEqual(self.part.nets, ("g", "h", "g"))

    def test_set_wrong_nets(self):
        for wrong in (*ODD, "xyz", 3, ["x", "y"], ("x", "y", "z", "z"), ["x", "y", "Z"], {"x": 1, "y": 1, "z": 1}):
            self.fails(InvalidPins, wrong, setattr, self.part, "nets", wrong)
        for wrong in WRONG_NAMES:
            self.fails(InvalidPins, ("x", "y", wrong), self.part.set_nets, "x", "y", wrong)
            nets = ["x", "y", wrong]
            self.fails(InvalidPins, nets, setattr, self.part, "nets", nets)
        self.fails(InvalidPins, (), self.part.set_nets)
        self.fails(InvalidPins, (["x", "y", "z"],), self.part.set_nets, ["x", "y", "z"])
        self.assertEqual(self.part.nets, ("x", "y", "u/z"))

    def test_pins(self):
        self.assertEqual([self.part["p"], self.part["q"], self.part["o"]], ["x", "y", "u/z"])
        self.part["q"] = "new/net"
        self.assertEqual(self.part.nets, ("x", "new/net", "u/z"))
        switch = Part(SWITCH, 1, "x", "y", "z")
        switch["g"] = "w"
        switch["a"] = "v"
        self.assertEqual([switch["a"], switch["b"], switch["g"], switch.nets], ["v", "y", "w", ("v", "y", "w")])

    def test_wrong_pins(self):
        for wrong in (*ODD, "", "x", "a", 0, 1):
            self.fails(UnknownName, wrong, lambda: self.part[wrong])
            self.fails(UnknownName, wrong, self.part.__setitem__, wrong, "Z")
        for wrong in WRONG_NAMES:
            self.fails(InvalidName, wrong, self.part.__setitem__, "p", wrong)
        self.assertEqual(self.part.nets, ("x", "y", "u/z"))
        self.assertRaises(TypeError, iter, self.part)

    def test_seats(self):
        seats = self.part.seats()
        self.assertIs(iter(seats), seats)
        self.assertEqual(list(seats), [("p", "x"), ("q", "y"), ("o", "u/z")])
        self.assertEqual(list(Part(SWITCH, 1, "z", "y", "x").seats()), [("a", "z"), ("b", "y"), ("g", "x")])

    def test_copied(self):
        other = self.part.copied()
        self.assertEqual(other, self.part)
        other["p"] = "w"
        other.value = 9
        self.assertEqual(self.part, Part(AMP, Ratio(3, 2), "x", "y", "u/z"))

    def test_moved(self):
        nets = {"x": "y", "y": "x", "w": "v"}
        moved = self.part.moved(nets)
        self.assertEqual(moved, Part(AMP, Ratio(3, 2), "y", "x", "u/z"))
        self.assertEqual(self.part.moved({"x": "m", "y": "m", "u/z": "m"}).nets, ("m", "m", "m"))
        self.assertEqual(self.part.moved({}), self.part)
        self.assertIsNot(self.part.moved({}), self.part)
        self.assertEqual(self.part.moved({3: "a", None: "b"}), self.part)
        self.assertEqual([self.part.nets, nets], [("x", "y", "u/z"), {"x": "y", "y": "x", "w": "v"}])

    def test_moved_wrong(self):
        for wrong in ([value for value in ODD if not isinstance(value, dict)] + ["x", 3, [("x", "y")]]):
            self.fails(InvalidPins, wrong, self.part.moved, wrong)
        for wrong in WRONG_NAMES:
            nets = {"x": "a", "w": wrong}
            self.fails(InvalidPins, nets, self.part.moved, nets)

    def test_equal(self):
        self.assertEqual(Part(PathKind("k"), 2, "x", "y"), Part(JoiningKind("k"), Ratio(4, 2), "x", "y"))
        self.assertNotEqual(self.part, Part(AMP, Ratio(3, 2), "y", "x", "u/z"))
        self.assertNotEqual(self.part, Part(AMP, 1, "x", "y", "u/z"))
        self.assertNotEqual(self.part, Part(PinKind("amp", "p", "q", "o"), Ratio(3, 2), "x", "y", "u/z"))
        for other in (*ODD, AMP, "x"):
            self.assertFalse(self.part == other)
