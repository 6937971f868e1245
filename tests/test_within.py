"""Points 3 (f), 37, 38 and 39 and the interface section within."""

from itertools import combinations, permutations
from random import Random

from wishedwires.circuits import Circuit
from wishedwires.errors import InvalidCircuit, InvalidPaper, LimitExceeded
from wishedwires.kinds import PinKind
from wishedwires.matching import Matching
from wishedwires.parts import Part
from wishedwires.within import apart_paper, lets_apart, most_apart, places, spots
from tests.helper import AMP, ARROW, NO_PARTS, ODD, TAP, TWO, WIRE, Case, block

SIX = PinKind("six", *"abcdef", swaps=(tuple("abcdef"),))


def all_places(pattern, circuit):
    """All places as pairs of dicts, in their order: a plain trial of all maps."""
    names, nets = pattern.part_names(), sorted({net for _, part in pattern.parts() for net in part.nets})
    ported, there_ported = set(pattern.ports.values()), set(circuit.ports.values())
    found = []
    for there in permutations(circuit.all_nets(), len(nets)):
        carried = dict(zip(nets, there))
        if any(net not in ported and (place in there_ported or len(pattern.pins_at(net)) != len(circuit.pins_at(place)))
               for net, place in carried.items()):
            continue
        for parts in permutations(circuit.part_names(), len(names)):
            if all(same_part(pattern[name].moved(carried), circuit[other]) for name, other in zip(names, parts)):
                found.append((carried, dict(zip(names, parts))))
    return found


def same_part(one, other):
    """Whether two parts are the same up to an exchange of the kind."""
    return one.kind == other.kind and one.value == other.value and any(
        tuple(one.nets[at] for at in order) == other.nets for order in one.kind.exchanges())


def random_circuit(chance, least, most, nets, ported):
    parts = {}
    for at in range(chance.randint(least, most)):
        kind = chance.choice((TAP, TWO, TWO, TWO, AMP, WIRE, ARROW))
        parts[f"t{at}"] = Part(kind, chance.choice((1, 1, 1, 1, 2)), *[chance.choice(nets) for _ in kind.pins])
    return Circuit({name: net for name, net in zip("pqrs", nets) if chance.random() < ported}, parts)


class PlacesTest(Case):
    def told(self, pattern, circuit):
        found = list(places(pattern, circuit))
        self.assertTrue(all(isinstance(place, Matching) for place in found))
        return [(place.net_map(), place.id_map()) for place in found]

    def test_plain_trial(self):
        chance, many = Random(1), 0
        for _ in range(400):
            pattern = random_circuit(chance, 1, chance.choice((1, 2, 3)), chance.choice(("xy", "xyz", "wxyz")), 0.8)
            circuit = random_circuit(chance, 3, 5, chance.choice(("abc", "abcd")), 0.3)
            right = all_places(pattern, circuit)
            self.assertEqual(self.told(pattern, circuit), right)
            sets = sorted({tuple(sorted(parts.values())) for _, parts in right})
            self.assertEqual(spots(pattern, circuit), sets)
            many += len(right) > 1
        self.assertGreater(many, 30)

    def test_ports_and_inner_nets(self):
        row = block("p:x q:y", "a wire 1 x m", "b wire 1 m y")
        circuit = block("p:a", "r wire 1 a b", "s wire 1 b c", "t wire 1 c d", "u wire 1 d e", "v tap 1 d")
        told = [(nets["m"], sorted((nets["x"], nets["y"]))) for nets, _ in self.told(row, circuit)]
        self.assertEqual(told, [("b", ["a", "c"])] * 2 + [("c", ["b", "d"])] * 2)
        circuit.set_port("q", "b")
        self.assertEqual([nets["m"] for nets, _ in self.told(row, circuit)], ["c", "c"])
        row.set_port("r", "m")
        self.assertEqual(sorted(nets["m"] for nets, _ in self.told(row, circuit)), ["b", "b", "c", "c", "d", "d"])

    def test_ports_without_parts(self):
        pattern = block("p:x q:z r:z", "a tap 1 x")
        circuit = block("", "s tap 1 a", "t tap 1 b")
        self.assertEqual(self.told(pattern, circuit), [({"x": "a"}, {"a": "s"}), ({"x": "b"}, {"a": "t"})])

    def test_exchanges_values_and_kinds(self):
        pattern = block("p:x q:y r:z", "a amp 1 x y z")
        circuit = block("", "t amp 1 a b c", "u amp 2 a b c", "v amp 1 d d e", "w two 1 a b")
        self.assertEqual(self.told(pattern, circuit), [({"x": "a", "y": "b", "z": "c"}, {"a": "t"}),
                                                       ({"x": "b", "y": "a", "z": "c"}, {"a": "t"})])
        same = block("p:x q:z", "a amp 1 x x z")
        self.assertEqual(self.told(same, circuit), [({"x": "d", "z": "e"}, {"a": "v"})])
        arrow = block("p:x q:y", "a arrow 1 x y")
        self.assertEqual(self.told(arrow, block("", "t arrow 1 b a")), [({"x": "b", "y": "a"}, {"a": "t"})])
        other = Circuit({"p": "x"}, {"a": Part(PinKind("tap", "n"), 1, "x")})
        self.assertEqual(self.told(other, block("", "t tap 1 a")), [])

    def test_equal_places_are_told_once(self):
        pattern, circuit = block("p:x", "a two 1 x x"), block("", "t two 1 a a")
        self.assertEqual(self.told(pattern, circuit), [({"x": "a"}, {"a": "t"})])
        # Two parts between the same nets make two places, and two patterns on one spot one spot.
        pattern = block("p:x q:y", "a two 1 x y", "b two 1 x y")
        circuit = block("", "t two 1 a b", "u two 1 b a")
        self.assertEqual([len(self.told(pattern, circuit)), spots(pattern, circuit)], [4, [("t", "u")]])

    def test_order(self):
        pattern, circuit = block("p:x q:y", "b tap 1 x", "a tap 1 y"), block("", *[f"t{at} tap 1 n{at % 2}" for at in range(4)])
        told = [(nets["x"], nets["y"], parts["a"], parts["b"]) for nets, parts in self.told(pattern, circuit)]
        self.assertEqual([told, len(told)], [sorted(told), 8])

    def test_the_whole_and_nothing(self):
        circuit = block("p:a", "t two 1 a b", "u amp 1 a b b")
        self.assertEqual(self.told(circuit, circuit), [({"a": "a", "b": "b"}, {"t": "t", "u": "u"})])
        self.assertEqual([self.told(circuit, Circuit()), spots(circuit, Circuit({"p": "a"}))], [[], []])

    def test_wrong(self):
        fine = block("p:a", "t tap 1 a")
        six, seven = [block("p:a", *[f"t{at} tap {at + 1} a" for at in range(many)]) for many in (6, 7)]
        forty, more = [block("p:a", *[f"t{at:02d} tap {at % 6 + 1} a" for at in range(many)]) for many in (40, 41)]
        self.assertEqual(len(self.told(six, forty)), 7 ** 4 * 6 ** 2)
        for call in (lambda *pair: next(places(*pair)), spots):
            for wrong in NO_PARTS:
                self.fails(InvalidCircuit, wrong, call, wrong, wrong)
                self.fails(InvalidCircuit, wrong, call, fine, wrong)
            empty = Circuit({"p": "a"})
            self.fails(InvalidCircuit, empty, call, empty, more)
            self.fails(LimitExceeded, 7, call, seven, None)
            self.fails(LimitExceeded, 7, call, seven, more)
            self.fails(LimitExceeded, 41, call, fine, more)
            self.fails(LimitExceeded, 41, call, six, more)

    def test_many_places(self):
        pattern = Circuit({net: net for net in "abcdef"}, {"t": Part(SIX, 1, *"abcdef")})
        circuit = Circuit({}, {f"r{at:02d}": Part(SIX, 1, *[f"n{(at + step) % 30}" for step in range(6)]) for at in range(27)})
        self.assertEqual([len(list(places(pattern, circuit))), len(spots(pattern, circuit))], [27 * 720, 27])
        pattern = block("p:x q:y", *[f"a{at} wire 1 {'x' if at == 0 else f'm{at}'} {'y' if at == 5 else f'm{at + 1}'}"
                                     for at in range(6)])
        ring = block("p:n0", *[f"r{at:02d} wire 1 n{at} n{(at + 1) % 40}" for at in range(40)])
        self.assertEqual(len(list(places(pattern, ring))), 2 * 35)

    def test_circuits_stay(self):
        pattern, circuit = block("p:x", "a tap 1 x"), block("p:a", "t tap 1 a", "u tap 1 b")
        twins = pattern.copied(), circuit.copied()
        running = places(pattern, circuit)
        first = next(running)
        self.assertEqual([first.net_map(), next(running).net_map()], [{"x": "a"}, {"x": "b"}])
        spots(pattern, circuit).append(3)
        self.assertEqual([(pattern, circuit), spots(pattern, circuit)], [twins, [("t",), ("u",)]])


def are_apart(some):
    return all(not set(one) & set(other) for one, other in combinations(some, 2))


def greatest(some):
    """How many spots are apart at most: a plain trial of all sets."""
    return max(len(chosen) for many in range(len(some) + 1) for chosen in combinations(some, many) if are_apart(chosen))


def right(some, many, paper):
    """Whether a paper that has the form of one is right: point 39 word by word."""
    if paper[0] == "touch":
        return len(paper[1]) <= many and all(any(value == name for value in paper[1] for name in spot) for spot in some)
    _, spot, first, second = paper
    if spot not in some:
        return False
    others = list(some)
    others.remove(spot)
    without = [other for other in others if not set(other) & set(spot)]
    return right(without, many - 1, first) and right(others, many, second)


def random_spots(chance, most=8):
    names = "abcdefgh"[:chance.randint(2, 8)]
    some = [tuple(sorted(set(chance.choice(names) for _ in range(chance.choice((1, 2, 2, 3))))))
            for _ in range(chance.randint(0, most))]
    return some


class ApartTest(Case):
    def test_plain_trial(self):
        chance = Random(2)
        for _ in range(300):
            some = random_spots(chance)
            told, many = most_apart(some), greatest(some)
            self.assertEqual([len(told), are_apart(told), all(told.count(spot) <= some.count(spot) for spot in told)],
                             [many, True, True])
            for limit in (many, many + 1, many + 7):
                paper = apart_paper(some, limit)
                self.assertTrue(right(some, limit, paper))
                self.assertIs(lets_apart(some, limit, paper), True)
            for limit in (many - 1, -1, -9):
                self.assertIsNone(apart_paper(some, limit))
                self.assertIs(lets_apart(some, limit, apart_paper(some, many)), False)

    def test_spoilt_papers(self):
        chance, told = Random(3), []

        def spoilt(paper):
            if paper[0] == "touch":
                names = list(paper[1])
                if names and chance.random() < 0.6:
                    names[chance.randrange(len(names))] = chance.choice("abcdefgh")
                else:
                    names.append(chance.choice("abcdefgh"))
                return ("touch", tuple(names))
            at = chance.choice((1, 2, 2, 3, 3))
            if at == 1:
                return (*paper[:1], tuple(chance.sample("abc", 2)), *paper[2:])
            return (*paper[:at], spoilt(paper[at]), *paper[at + 1:])
        while len(told) < 600:
            some = random_spots(chance)
            many = greatest(some)
            paper = spoilt(chance.choice((apart_paper(some, many), self.deep(some, many))))
            told.append(lets_apart(some, many, paper))
            self.assertEqual(told[-1], right(some, many, paper))
        self.assertGreater(min(told.count(True), told.count(False)), 50)

    def deep(self, some, many):
        """A paper that takes out one spot after the other."""
        if not some:
            return ("touch", ()) if many >= 0 else ("touch", ("z",))
        first, *others = some
        without = [other for other in others if not set(other) & set(first)]
        return ("spot", first, self.deep(without, many - 1), self.deep(others, many))

    def test_by_hand(self):
        some = [("a", "b"), ("b", "c"), ("a", "c")]
        deep = ("spot", ("a", "b"), ("touch", ()), ("touch", ("c",)))
        for many, paper in ((1, deep), (2, ("touch", ("a", "b"))), (2, ("touch", ("a", "c"))), (3, ("touch", ("a", "b", "z"))),
                            (2, ("spot", ("b", "c"), ("touch", ("z",)), ("touch", ("a",)))), (1, self.deep(some, 1)),
                            (3, ("touch", ("a", None, "b"))), (3, ("touch", (["a"], "a", "c"))), (4, ("touch", (True, 1.5, "a", "b")))):
            self.assertIs(lets_apart(some, many, paper), True, paper)
        for many, paper in ((0, deep), (1, ("touch", ("a", "b"))), (1, ("touch", ("a",))), (2, ("touch", ["a", "b"])),
                            (2, ["touch", ("a", "b")]), (2, ("touch", ("a", "b"), ())), (2, ("touch",)), (2, ("touched", ("a", "b"))),
                            (2, ("touch", "ab")), (2, ("touch", {"a": 1, "b": 2})), (2, ("touch", None)), (9, ("touch", ())),
                            (1, list(deep)), (1, deep[:3]), (1, (*deep, deep[3])), (1, (deep[0], ["a", "b"], *deep[2:])),
                            (1, (deep[0], ("b", "a"), *deep[2:])), (1, (deep[0], ("a", "d"), *deep[2:])),
                            (1, (deep[0], None, *deep[2:])), (1, (*deep[:2], ("touch", ("c",)), deep[3])),
                            (1, (*deep[:3], ("touch", ("a", "c")))), (1, (*deep[:2], None, deep[3])), (1, (*deep[:3], None)),
                            (1, ("spots", *deep[1:])), (-1, deep), (-1, ("touch", ()))):
            self.assertIs(lets_apart(some, many, paper), False, paper)
        for wrong in (*ODD, 3, "touch"):
            self.assertIs(lets_apart(some, 3, wrong), False)

    def test_spots_that_stand_twice(self):
        some = [("a",), ("a",), ("b",)]
        self.assertEqual(sorted(most_apart(some)), [("a",), ("b",)])
        # One of the two is taken out; the other one is left, and has a part of it.
        paper = ("spot", ("a",), ("touch", ("b",)), ("touch", ("a", "b")))
        self.assertIs(lets_apart(some, 2, paper), True)
        self.assertIs(lets_apart(some, 1, paper), False)
        once = ("spot", ("a",), ("touch", ()), ("spot", ("a",), ("touch", ()), ("touch", ())))
        twice = ("spot", ("a",), ("touch", ()), ("touch", ()))
        self.assertEqual([lets_apart([("a",)] * 2, 1, once), lets_apart([("a",)] * 2, 1, twice), lets_apart([("a",)], 1, twice)],
                         [True, False, True])

    def test_no_spots_and_numbers_below_0(self):
        self.assertEqual([most_apart([]), apart_paper([], 0), apart_paper([], -1)], [[], ("touch", ()), None])
        for paper in (("touch", ()), ("spot", ("a",), ("touch", ()), ("touch", ()))):
            self.assertIs(lets_apart([], -1, paper), False)
        self.assertIs(lets_apart([], 0, ("touch", ())), True)
        self.assertIsNone(apart_paper([("a",)], 0))
        self.assertIs(lets_apart([("a",)], 0, ("spot", ("a",), ("touch", ()), ("touch", ()))), False)

    def test_wrong_spots(self):
        fourteen, fifteen = [[(f"a{at}", f"b{at}") for at in range(many)] for many in (14, 15)]
        self.assertEqual(len(most_apart(fourteen)), 14)
        for call, args in ((most_apart, ()), (apart_paper, (3,)), (lets_apart, (3, None))):
            for wrong in (*ODD, 3, "a", (("a",),), [()], [("a",), ()], ["a"], [["a"]], [("a", 3)], [("a", "A")], [("a", None)],
                          [("a",), ("a", "b/")], fifteen + [()]):
                if wrong != []:
                    self.fails(InvalidPaper, wrong, call, wrong, *args)
            self.fails(LimitExceeded, 15, call, fifteen, *args)
            self.fails(LimitExceeded, 20, call, [("a",)] * 20, *args)

    def test_values_stay(self):
        some = [("b/c", "a"), ("a", "d"), ("e",)]
        told = most_apart(some)
        told.clear()
        self.assertEqual([some, len(most_apart(some))], [[("b/c", "a"), ("a", "d"), ("e",)], 2])

    def test_fourteen_spots(self):
        chance = Random(4)
        for size in (2, 3, 6):
            some = [tuple(f"n{chance.randrange(16)}" for _ in range(size)) for _ in range(14)]
            many = len(most_apart(some))
            self.assertIs(lets_apart(some, many, apart_paper(some, many)), True)
            self.assertIsNone(apart_paper(some, many - 1))
        # Fourteen spots, each two of which have a part of their own: one apart, and seven touch all of them.
        pairs = list(combinations(range(14), 2))
        some = [tuple(f"n{one}y{other}" for one, other in pairs if at in (one, other)) for at in range(14)]
        for many in (1, 6, 7):
            self.assertIs(lets_apart(some, many, apart_paper(some, many)), True)
