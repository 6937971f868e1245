"""Points 3 (b), 17 and 19 and the interface section matching."""

from itertools import islice, permutations, product
from random import Random
from time import process_time

from wishedwires.colours import first_colours, settled
from wishedwires.errors import InvalidMatching, LimitExceeded, UnknownName
from wishedwires.expressions import Leaf
from wishedwires.forms import Form
from wishedwires.kinds import PinKind
from wishedwires.matching import Matching, alike, carried, matching, matchings, net_maps
from tests.helper import (AMP, GATE, ODD, TAP, TWO, WIRE, Case, all_matchings, branch, random_form, renamed, ring, single,
                          wires)

SIX = PinKind("six", *"abcdef", swaps=(tuple("abcdef"),))
WRONG_MAPS = (*[value for value in ODD if value not in ({}, {"a": "b"})], "ab", 3, [("a", "b")], {"a": 1}, {1: "a"},
              {"a": "b", "c": "b"}, {None: "a"}, {"a": None}, {"a": ["b"]}, {"a": "b", True: "c"}, {("a",): "b"})


def cycle(*rows):
    """The map of a permutation that is told by its cycles."""
    return {one: other for row in rows for one, other in zip(row, row[1:] + row[0])}


def told(m):
    return m.net_map(), m.id_map()


class MatchingTest(Case):
    def setUp(self):
        self.m = Matching({"b": "x", "a": "y"}, {"t": "u"})

    def test_asking(self):
        self.assertEqual([self.m("a"), self.m("b"), self.m.id_of("t"), len(self.m)], ["y", "x", "u", 2])
        self.assertEqual([self.m.net_map(), self.m.id_map()], [{"b": "x", "a": "y"}, {"t": "u"}])
        self.assertEqual([list(self.m), [*self.m], dict(self.m)], [[("a", "y"), ("b", "x")]] * 2 + [{"a": "y", "b": "x"}])

    def test_unknown(self):
        for wrong in (*ODD, "x", "t", 3):
            self.fails(UnknownName, wrong, self.m, wrong)
        for wrong in (*ODD, "u", "a", 3):
            self.fails(UnknownName, wrong, self.m.id_of, wrong)

    def test_copies(self):
        nets, ids = {"a": "b"}, {"t": "u"}
        m = Matching(nets, ids)
        nets["c"] = "d"
        ids.clear()
        m.net_map().clear()
        m.id_map()["v"] = "w"
        self.assertEqual([told(m), len(m)], [({"a": "b"}, {"t": "u"}), 1])

    def test_wrong_maps(self):
        for wrong in WRONG_MAPS:
            self.fails(InvalidMatching, wrong, Matching, wrong, 3)
            self.fails(InvalidMatching, wrong, Matching, {"a": "b"}, wrong)
        self.assertEqual(len(Matching({}, {})), 0)
        self.assertEqual(Matching({"": "A b"}, {"1": ""})(""), "A b")

    def test_product(self):
        n = Matching({"y": "a", "x": "z"}, {"u": "v"})
        self.assertEqual(told(self.m * n), ({"a": "a", "b": "z"}, {"t": "v"}))
        self.assertEqual([told(self.m), told(n)], [({"b": "x", "a": "y"}, {"t": "u"}), ({"y": "a", "x": "z"}, {"u": "v"})])
        for wrong in (*ODD, 3, "x", {"x": "a", "y": "b"}, self.m, Matching({"x": "a"}, {"u": "v"}),
                      Matching({"x": "a", "y": "b", "z": "c"}, {"u": "v"}), Matching({"x": "a", "y": "b"}, {"v": "v"}),
                      Matching({"x": "a", "y": "b"}, {}), Matching({"x": "a", "y": "b"}, {"u": "v", "w": "x"})):
            self.fails(InvalidMatching, wrong, lambda: self.m * wrong)

    def test_product_and_inverse_in_general(self):
        chance = Random(3)
        for _ in range(60):
            nets, ids = "abcdef"[:chance.randint(0, 6)], "stuv"[:chance.randint(0, 4)]
            l, m, n = [Matching(dict(zip(nets, chance.sample(nets, len(nets)))), dict(zip(ids, chance.sample(ids, len(ids)))))
                       for _ in range(3)]
            self.assertEqual([(m * n)(net) for net in nets], [n(m(net)) for net in nets])
            self.assertEqual([(m * n).id_of(name) for name in ids], [n.id_of(m.id_of(name)) for name in ids])
            self.assertEqual([(l * m) * n, ~(m * n), ~~m], [l * (m * n), ~n * ~m, m])
            self.assertTrue((m * ~m).is_identity and (~m * m).is_identity)

    def test_inverse(self):
        self.assertEqual(told(~self.m), ({"x": "b", "y": "a"}, {"u": "t"}))
        self.assertEqual(list(~self.m), [("x", "b"), ("y", "a")])

    def test_power(self):
        m = Matching(cycle("abcde", "fg", "h"), cycle("stu"))
        for k in range(-31, 32):
            right = Matching({net: net for net in "abcdefgh"}, {name: name for name in "stu"})
            for _ in range(abs(k)):
                right = right * (m if k > 0 else ~m)
            self.assertEqual(m.power(k), right)
        self.assertTrue(m.power(0).is_identity)
        for k in (10 ** 59, -10 ** 59, 30 * 10 ** 50):
            self.assertEqual(m.power(k), m.power(k % 30))
        self.assertEqual(told(m), (cycle("abcde", "fg", "h"), cycle("stu")))

    def test_power_of_others(self):
        for m in (self.m, Matching({"a": "b"}, {}), Matching({"a": "a"}, {"t": "u"}), Matching({"a": "b", "b": "c"}, {})):
            for k in (0, 1, -3, 10 ** 30):
                self.fails(InvalidMatching, k, m.power, k)
        self.assertEqual(told(Matching({}, {}).power(5)), ({}, {}))

    def test_equal(self):
        self.assertEqual(self.m, Matching({"a": "y", "b": "x"}, {"t": "u"}))
        for other in (Matching({"a": "y"}, {"t": "u"}), Matching({"a": "x", "b": "y"}, {"t": "u"}),
                      Matching({"a": "y", "b": "x"}, {"t": "v"}), Matching({"a": "y", "b": "x"}, {}), *ODD, 3, "m"):
            self.assertFalse(self.m == other)
            self.assertTrue(self.m != other)

    def test_identity(self):
        form = Form({"p": "d"}, [*wires("ab bc"), single(TAP, "x", "t2 t1")])
        m = Matching.identity(form)
        self.assertEqual(told(m), ({net: net for net in "abcdx"}, {"w00": "w00", "w01": "w01", "t1": "t1"}))
        self.assertTrue(m.is_identity)
        self.assertEqual([Matching({"a": "a"}, {"t": "u", "u": "t"}).is_identity, self.m.is_identity], [False, False])
        self.assertEqual([Matching({"a": "b", "b": "a"}, {"t": "t"}).is_identity, Matching({}, {}).is_identity], [False, True])
        many = Form({}, [single(TAP, f"x{at}", f"t{at}") for at in range(30)])
        self.assertEqual(len(Matching.identity(many)), 30)


class MatchingsTest(Case):
    def test_plain_trial(self):
        chance = Random(11)
        found = 0
        for _ in range(300):
            one = random_form(chance, "vwxy", 3)
            other = renamed(chance, one) if chance.random() < 0.8 else random_form(chance, "vwxy", 3)
            right = all_matchings(one, other)
            self.assertEqual([told(m) for m in matchings(one, other)], right)
            self.assertEqual(matching(one, other), Matching(*right[0]) if right else None)
            self.assertIs(alike(one, other), len(right) > 0)
            found += len(right)
        self.assertGreater(found, 200)

    def test_carried(self):
        chance = Random(12)
        for _ in range(150):
            one = random_form(chance, "wxy", 3)
            other = renamed(chance, one) if chance.random() < 0.8 else random_form(chance, "wxy", 3)
            firsts = {}
            for nets, ids in all_matchings(one, other):
                firsts.setdefault(tuple(nets.items()), ids)
            if len(one.all_nets()) == len(other.all_nets()):
                for places in permutations(other.all_nets()):
                    nets = dict(zip(one.all_nets(), places))
                    self.assertEqual(carried(one, other, nets), firsts.get(tuple(nets.items())))

    def test_order(self):
        one, other = Form({}, wires("ab bc cd")), Form({}, wires("ha bh gb"))
        self.assertEqual([told(m) for m in matchings(one, other)], [
            ({"a": "a", "b": "h", "c": "b", "d": "g"}, {"w00": "w00", "w01": "w01", "w02": "w02"}),
            ({"a": "g", "b": "b", "c": "h", "d": "a"}, {"w00": "w02", "w01": "w01", "w02": "w00"})])
        taps = Form({}, [single(TAP, "x", "t2"), single(TAP, "x", "t1"), single(TAP, "x", "t3")])
        self.assertEqual([[m.id_of(f"t{at}") for at in (1, 2, 3)] for m in matchings(taps, taps)],
                         [list(row) for row in permutations(["t1", "t2", "t3"])])

    def test_ids_behind_nets(self):
        form = Form({}, [single(TAP, "x", "t3"), single(TAP, "y", "t1"), single(TAP, "y", "t4"), single(TAP, "x", "t2")])
        self.assertEqual([(m("x"), [m.id_of(f"t{at}") for at in (1, 2, 3, 4)]) for m in matchings(form, form)], [
            ("x", ["t1", "t2", "t3", "t4"]), ("x", ["t1", "t3", "t2", "t4"]), ("x", ["t4", "t2", "t3", "t1"]),
            ("x", ["t4", "t3", "t2", "t1"]), ("y", ["t2", "t1", "t4", "t3"]), ("y", ["t2", "t4", "t1", "t3"]),
            ("y", ["t3", "t1", "t4", "t2"]), ("y", ["t3", "t4", "t1", "t2"])])

    def test_exchanged_pins(self):
        one = Form({}, [single(AMP, "x y z", "t")])
        self.assertEqual([m("x") + m("y") + m("z") for m in matchings(one, one)], ["xyz", "yxz"])
        plain = PinKind("plain", "p", "q", "o")
        one = Form({}, [single(plain, "x y z", "t")])
        self.assertEqual([m("x") + m("y") + m("z") for m in matchings(one, one)], ["xyz"])
        one = Form({}, [branch(Leaf(GATE, 1, "u") & Leaf(GATE, 1, "v"), "x y", "t")])
        self.assertEqual([m("u") + m("v") + m("x") + m("y") for m in matchings(one, one)], ["uvxy", "uvyx", "vuxy", "vuyx"])

    def test_ports(self):
        one = Form({"p": "a", "q": "b"}, wires("ab"))
        self.assertEqual([told(m)[0] for m in matchings(one, Form({"q": "x", "p": "y"}, wires("xy")))], [{"a": "y", "b": "x"}])
        for ports in ({"p": "a"}, {"p": "a", "r": "b"}, {"p": "a", "q": "b", "r": "b"}, {}, {"p": "a", "q": "a"}):
            other = Form(ports, wires("ab"))
            self.assertEqual([list(matchings(one, other)), list(matchings(other, one))], [[], []])
            self.assertEqual([carried(one, other, {"a": "a", "b": "b"}), matching(one, other), alike(other, one)],
                             [None, None, False])

    def test_values_kinds_and_numbers(self):
        one = Form({}, [single(TAP, "x", "t")])
        for items in ([single(TAP, "x", "t", 2)], [single(PinKind("pat", "m"), "x", "t")], [], wires("xx"),
                      [single(TAP, "x", "t"), single(TAP, "x", "u")], [single(TAP, "x", "t"), single(TAP, "y", "u")]):
            other = Form({}, items)
            self.assertEqual([alike(one, other), alike(other, one)], [False, False])
        self.assertTrue(alike(one, Form({}, [single(TAP, "y", "u v")], ["z"])))

    def test_empty(self):
        empty = Form({}, [])
        self.assertEqual([told(m) for m in matchings(empty, Form({}, [], ["t"]))], [({}, {})])
        self.assertEqual([alike(empty, empty), carried(empty, empty, {}), alike(empty, Form({"p": "x"}, []))], [True, {}, False])
        ports = Form({"p": "x", "q": "y", "r": "x"}, [])
        other = Form({"r": "a", "p": "a", "q": "b"}, [])
        self.assertEqual([told(m) for m in matchings(ports, other)], [({"x": "a", "y": "b"}, {})])

    def test_wrong_maps_of_nets(self):
        form = Form({"p": "a"}, wires("ab bc"))
        right = {"a": "a", "b": "b", "c": "c"}
        self.assertEqual(carried(form, form, right), {"w00": "w00", "w01": "w01"})
        for wrong in (*WRONG_MAPS, *ODD, {"a": "a", "b": "b"}, {**right, "d": "d"}, {**right, "c": "b"}, {**right, "c": "d"},
                      {**right, "c": ["c"]}, {"a": "a", "b": "b", "d": "c"}, {"a": "c", "b": "b", "c": "a"}, list(right.items()),
                      {**right, 3: "c"}):
            self.assertIsNone(carried(form, form, wrong))
        self.assertEqual(right, {"a": "a", "b": "b", "c": "c"})

    def test_unlike_numbers_of_equal_items(self):
        def taps(first, second):
            return Form({"p": "x", "q": "y"}, [single(TAP, "x", f"t{at}") for at in range(first)] + [
                single(TAP, "y", f"u{at}") for at in range(second)])
        for one, other in ((taps(1, 1), taps(2, 1)), (taps(1, 2), taps(2, 1)), (taps(6, 5), taps(5, 6)), (taps(0, 1), taps(1, 0))):
            for forms in ((one, other), (other, one)):
                self.assertIsNone(carried(*forms, {"x": "x", "y": "y"}))
                self.assertFalse(alike(*forms))
        self.assertEqual(carried(taps(2, 1), taps(2, 1), {"x": "x", "y": "y"}), {"t0": "t0", "t1": "t1", "u0": "u0"})

    def test_search_without_trails(self):
        # The trails of the start leave hardly a candidate that fails in forms within the limits.
        one = Form({}, ring("abc") + ring("defghi", "v"))
        other = renamed(Random(7), one)
        colours = settled(one, other, first_colours(one, other))
        self.assertEqual(len({*colours[0].values()}), 1)
        self.assertEqual(list(net_maps(one, other, colours, {})), [m.net_map() for m in matchings(one, other)])

    def test_results_are_new(self):
        form = Form({}, wires("ab"))
        nets = {"b": "a", "a": "b"}
        carried(form, form, nets)["w00"] = "none"
        self.assertEqual([carried(form, form, nets), nets], [{"w00": "w00"}, {"b": "a", "a": "b"}])
        for m in matchings(form, form):
            m.net_map().clear()
            m.id_map().clear()
        self.assertEqual([len(m) for m in matchings(form, form)], [2, 2])

    def test_unlike_rings(self):
        one, other = Form({}, ring("abcdefghij")), Form({}, ring("abcde") + [
            branch(Leaf(WIRE, 1), f"{x} {y}", f"v{x}") for x, y in zip("fghij", "ghijf")])
        self.assertEqual([alike(one, other), alike(other, one), alike(one, one), alike(other, other)], [False, False, True, True])
        self.assertEqual([len(list(matchings(one, one))), len(list(matchings(other, other)))], [20, 200])


class GreatTest(Case):
    def forms(self):
        nets = [f"n{at:02}" for at in range(24)]
        yield Form({}, [single(TWO, f"{nets[2 * at]} {nets[2 * at + 1]}", f"t{at:02}") for at in range(12)])
        yield Form({}, [single(SIX, " ".join(nets[(2 * at + by) % 24] for by in range(6)), f"t{at:02}") for at in range(12)])
        yield Form({}, [single(SIX, " ".join(nets[6 * at:6 * at + 6]), f"t{at:02}") for at in range(4)])
        yield Form({}, [single(TAP, nets[0], f"t{at:02}") for at in range(12)])
        yield Form({}, ring("abcdefghij"))

    def test_first_ones(self):
        for form in self.forms():
            other = renamed(Random(1), form)
            begun = process_time()
            some = list(islice(matchings(form, other), 3))
            self.assertEqual([len(some), some[0]], [3, matching(form, other)])
            order = [[m(net) for net in form.all_nets()] + [m.id_of(name) for name in sorted(m.id_map())] for m in some]
            self.assertEqual(order, sorted(order))
            for m in some:
                self.assertTrue(all(item.mapped(m.net_map()) == other.item_of(m.id_of(item.id)) for item in form))
            self.assertTrue(alike(other, form))
            self.assertLess(process_time() - begun, 5)

    def test_limits(self):
        small = Form({}, [single(TAP, "x", "t")])
        twelve = Form({}, [single(TAP, "x", f"t{at}") for at in range(12)])
        thirteen = Form({}, [single(TAP, f"x{at}", f"t{at}") for at in range(13)])
        nets = [f"n{at}" for at in range(30)]
        wide = [Form({}, [single(SIX, " ".join(nets[6 * at:6 * at + 6]), f"t{at}") for at in range(many)] + more)
                for many, more in ((4, []), (4, [single(TAP, "x", "u")]), (5, []))]
        both = Form({}, [*wide[2].entries, *[single(TAP, "n0", f"u{at}") for at in range(9)]])
        for one, other in product((small, twelve, wide[0]), repeat=2):
            self.assertIs(alike(one, other), one is other)
        for one, other, number in ((small, thirteen, 13), (thirteen, twelve, 13), (wide[1], small, 25), (wide[0], wide[1], 25),
                                   (wide[2], wide[1], 30), (both, thirteen, 14), (thirteen, wide[2], 13), (both, both, 14)):
            for forms in ((one, other), (other, one)):
                for call in (alike, matching, lambda *forms: list(matchings(*forms))):
                    self.fails(LimitExceeded, number, call, *forms)
                for nets in ({}, None, 3):
                    self.fails(LimitExceeded, number, carried, *forms, nets)
