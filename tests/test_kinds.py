"""Point 6, and the lines of kinds of point 10."""

from itertools import permutations

from wishedwires.errors import InvalidKind, InvalidName
from wishedwires.kinds import DirectedJoiningKind, DirectedKind, JoiningKind, Kind, PathKind, PinKind
from wishedwires.rules import ValueRule
from tests.helper import Case, ODD, WORDS, WRONG_WORDS

SIX = ("a", "b", "c", "d", "e", "f")
CLASSES = (PathKind, DirectedKind, JoiningKind, DirectedJoiningKind)


def kept_groups(order, pins, groups):
    """Whether an order exchanges pins within the groups alone."""
    for place, index in enumerate(order):
        if place != index and not any(pins[place] in group and pins[index] in group for group in groups):
            return False
    return True


class PinKindTest(Case):
    def test_attributes(self):
        kind = PinKind("amp", "p", "q", "o", swaps=(("p", "q"),))
        self.assertEqual([kind.name, kind.pins, kind.controls, kind.is_path], ["amp", ("p", "q", "o"), (), False])
        self.assertEqual([kind.DIRECTED, PinKind.DIRECTED, Kind.DIRECTED], [False] * 3)
        self.assertIsInstance(kind, Kind)

    def test_names(self):
        for name in WORDS:
            self.assertEqual(PinKind(name, name).text, f"pins {name} {name}")
        for wrong in WRONG_WORDS:
            self.fails(InvalidName, wrong, PinKind, wrong, "p")

    def test_orders(self):
        for pins, groups in ((("m",), ()), (SIX, ()), (SIX, (SIX,)), (SIX, (("f", "a"), ("c", "b"))),
                             (SIX, (("e", "c", "a"), ("b", "f", "d"))), (("x", "y", "z"), (("z", "x"),))):
            kind = PinKind("k", *pins, swaps=groups)
            wanted = [order for order in permutations(range(len(pins))) if kept_groups(order, pins, groups)]
            self.assertEqual(kind.orders, tuple(wanted))
            self.assertEqual(list(kind.exchanges()), wanted)
        self.assertEqual(len(PinKind("k", *SIX, swaps=(SIX,)).orders), 720)

    def test_texts(self):
        self.assertEqual(PinKind("one", "m").text, "pins one m")
        self.assertEqual(PinKind("k", *SIX, swaps=(("f", "d"), ("c", "e", "a"))).text, "pins k a b c d e f : a c e , d f")
        self.assertEqual(PinKind("k", "a", "b", "c", "d", swaps=(("c", "b"), ("d", "a"))).text, "pins k a b c d : a d , b c")
        self.assertEqual(PinKind("k", "z", "y", "x", swaps=(("x", "z"),)).text, "pins k z y x : z x")

    def test_wrong_pins(self):
        for pins in ((), (*SIX, "g"), ("a", "a"), ("a", "b", "a")):
            self.fails(InvalidKind, pins, PinKind, "k", *pins)
            self.fails(InvalidKind, pins, PinKind, "k", *pins, swaps=3)
        for wrong in WRONG_WORDS:
            self.fails(InvalidKind, ("p", wrong), PinKind, "k", "p", wrong)

    def test_wrong_swaps(self):
        for swaps in ((("a",),), ((),), (("a", "a"),), (("a", "b"), ("b", "c")), (("a", "z"),), ("ab",), (["a", "b"],),
                      [("a", "b")], None, "", (("a", 1),), (("a", ["b"]),), ("a", "b"), {}, True, (("a", "b"), ())):
            self.fails(InvalidKind, swaps, PinKind, "k", "a", "b", "c", swaps=swaps)

    def test_which_error_is_first(self):
        self.fails(InvalidName, "K", PinKind, "K", "A", swaps=3)
        self.fails(InvalidName, "K", PinKind, "K")


class PathKindTest(Case):
    def test_attributes(self):
        for made in CLASSES:
            directed = made in (DirectedKind, DirectedJoiningKind)
            for controls in ((), ("g",), ("z", "y", "x")):
                kind = made("k", *controls)
                self.assertEqual([kind.name, kind.pins, kind.controls], ["k", ("a", "b", *controls), controls])
                self.assertEqual([kind.is_path, kind.DIRECTED, made.DIRECTED], [True, directed, directed])
                rest = tuple(range(2, 2 + len(controls)))
                orders = ((0, 1, *rest),) if directed else ((0, 1, *rest), (1, 0, *rest))
                self.assertEqual(kind.orders, orders)
                self.assertEqual(tuple(kind.exchanges()), orders)

    def test_classes(self):
        self.assertEqual(set(JoiningKind.__bases__), {PathKind})
        self.assertEqual(set(DirectedKind.__bases__), {PathKind})
        self.assertEqual(set(DirectedJoiningKind.__bases__), {JoiningKind, DirectedKind})
        self.assertTrue(issubclass(PathKind, Kind))

    def test_texts(self):
        self.assertEqual(PathKind("k").text, "path k")
        self.assertEqual(PathKind("k", "z", "y").text, "path k z y")
        self.assertEqual(DirectedKind("k", "g").text, "path k g : directed")
        self.assertEqual(JoiningKind("k").text, "path k")
        self.assertEqual(JoiningKind("k", "g", row="inverse").text, "path k g : row inverse")
        self.assertEqual(JoiningKind("k", side=ValueRule("sum")).text, "path k : side sum")
        self.assertEqual(DirectedJoiningKind("k", "g", row="inverse", side="inverse").text,
                         "path k g : directed row inverse side inverse")
        self.assertEqual(DirectedJoiningKind("k").text, "path k : directed")

    def test_wrong_names_and_controls(self):
        for made in CLASSES:
            for wrong in WRONG_WORDS:
                self.fails(InvalidName, wrong, made, wrong)
                self.fails(InvalidName, wrong, made, wrong, "a")
                self.fails(InvalidKind, ("g", wrong), made, "k", "g", wrong)
            for controls in (("a",), ("b",), ("c", "a"), ("c", "c"), ("c", "d", "e", "f")):
                self.fails(InvalidKind, controls, made, "k", *controls)

    def test_rules(self):
        for made in (JoiningKind, DirectedJoiningKind):
            self.assertEqual(made("k").rules(), {})
            self.assertEqual(made("k", row="sum").rules(), {"row": ValueRule("sum")})
            rules = made("k", side=ValueRule("inverse"), row="sum").rules()
            self.assertEqual(rules, {"row": ValueRule("sum"), "side": ValueRule("inverse")})

    def test_rules_are_handed_out_as_copies(self):
        kind = JoiningKind("k", row="sum")
        kind.rules().clear()
        self.assertEqual(kind.rules(), {"row": ValueRule("sum")})

    def test_wrong_rules(self):
        for made in (JoiningKind, DirectedJoiningKind):
            for wrong in (*[value for value in ODD if value is not None], "", "max", 1):
                self.fails(InvalidKind, wrong, made, "k", row=wrong)
                self.fails(InvalidKind, wrong, made, "k", side=wrong)
                self.fails(InvalidKind, wrong, made, "k", row=wrong, side="max")
                self.fails(InvalidKind, ("a",), made, "k", "a", row=wrong)
                self.fails(InvalidName, "K", made, "K", "a", row=wrong)


class KindTest(Case):
    def test_equal_by_text(self):
        self.assertEqual(PinKind("k", "a", "b", "c", swaps=(("c", "a"),)), PinKind("k", "a", "b", "c", swaps=(("a", "c"),)))
        self.assertEqual(PathKind("k"), JoiningKind("k"))
        self.assertEqual(DirectedKind("k"), DirectedJoiningKind("k"))
        self.assertNotEqual(PathKind("k"), DirectedKind("k"))
        self.assertNotEqual(PathKind("k"), PinKind("k", "a", "b"))
        self.assertNotEqual(PathKind("k"), PathKind("l"))
        self.assertNotEqual(PathKind("k", "g"), PathKind("k", "h"))
        self.assertNotEqual(JoiningKind("k", row="sum"), JoiningKind("k", side="sum"))
        for other in (*ODD, "path k"):
            self.assertFalse(PathKind("k") == other)

    def test_exchanges_of_every_kind_keep_controls(self):
        for order in PathKind("k", "x", "y", "z").orders:
            self.assertEqual(order[2:], (2, 3, 4))

    def test_base(self):
        kind = Kind("k1")
        self.assertEqual([kind.name, kind.pins, kind.controls, kind.is_path, kind.orders, list(kind.exchanges())],
                         ["k1", (), (), False, ((),), [()]])
        self.assertEqual([kind.DIRECTED, kind == Kind("k1"), kind == Kind("k2"), kind.first_writing([])], [False, True, False, ()])
        self.assertNotIn(kind.text, (PinKind("k1", "m").text, PathKind("k1").text))

    def test_first_writing(self):
        self.assertEqual([PathKind("k", "g").first_writing(("y", "x", "a")), PathKind("k").first_writing(["x", "y"])],
                         [("x", "y", "a"), ("x", "y")])
        self.assertEqual(DirectedKind("k", "g").first_writing(("y", "x", "a")), ("y", "x", "a"))
        for kind in (PinKind("k", *SIX, swaps=(("f", "d"), ("c", "e", "a"))), PinKind("k", *SIX, swaps=(SIX,)), PinKind("k", *SIX)):
            for words in (("y", "x", "y", "a", "b", "a"), ("3", "11", "2", "1", "-1", "0"), ("f", "e", "d", "c", "b", "a")):
                tried = min(tuple(words[index] for index in order) for order in kind.exchanges())
                self.assertEqual([kind.first_writing(words), kind.first_writing(list(words))], [tried, tried])
