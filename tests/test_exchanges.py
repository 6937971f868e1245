"""Points 3 (b), 18 and 19 and the interface section exchanges."""

from math import factorial
from random import Random
from time import process_time

from wishedwires.colours import first_colours, settled
from wishedwires.errors import InvalidMatching, LimitExceeded
from wishedwires.exchanges import Exchanges, _level
from wishedwires.expressions import Leaf
from wishedwires.forms import Form
from wishedwires.kinds import PinKind
from wishedwires.matching import Matching, matching, matchings
from tests.helper import (AMP, GATE, ODD, TAP, TWO, Case, all_matchings, branch, random_form, renamed, ring, single, wires)

SIX = PinKind("six", *"abcdef", swaps=(tuple("abcdef"),))


def orbits(names, maps):
    """The classes of names that maps of a whole group carry to one another."""
    told = {tuple(sorted({m[name] for m in maps})) for name in names}
    return sorted(list(row) for row in told)


class ExchangesTest(Case):
    def check(self, form, right):
        """Holds the exchanges of a form against all of them, as pairs of dicts."""
        found = Exchanges(form)
        self.assertEqual([found.many, type(found.generators)], [len(right), tuple])
        self.assertEqual([list(found), len(found)], [list(found.generators), len(found.generators)])
        self.assertLessEqual(len(found), 400)
        for m in found:
            self.assertIn((m.net_map(), m.id_map()), right)
        nets, ids = form.all_nets(), sorted(item.id for item in form)
        chain = []
        for at, net in enumerate(nets):
            keeping = [m for m, _ in right if all(m[other] == other for other in nets[:at])]
            chain.append((net, sorted({m[net] for m in keeping})))
        self.assertEqual(list(found.chain()), chain)
        self.assertEqual(found.net_classes(), orbits(nets, [m for m, _ in right]))
        self.assertEqual(found.id_classes(), orbits(ids, [m for _, m in right]))
        for told in right:
            m = Matching(*told)
            self.assertIn(m, found)
            self.check_factors(form, found, m)
        return found

    def check_factors(self, form, found, m):
        indices = found.factors(m)
        self.assertIsInstance(indices, list)
        self.assertLessEqual(len(indices), 400)
        told = Matching.identity(form)
        for index in indices:
            told = told * found.generators[index]
        self.assertEqual(told, m)

    def test_plain_trial(self):
        chance = Random(21)
        for _ in range(150):
            form = random_form(chance, "vwxy", 4)
            self.check(form, all_matchings(form, form))

    def test_symmetric_forms(self):
        for form in (Form({}, ring("abcd")), Form({}, [single(TAP, net, f"t{net}") for net in "wxyz"]),
                     Form({}, [single(TWO, "w x", "t1"), single(TWO, "y z", "t2")]), Form({}, wires("ab ac ad ae")),
                     Form({}, [single(TAP, "x", f"t{at}") for at in range(4)] + [single(TAP, "y", "u")]),
                     Form({}, [single(AMP, "x y z", "t1"), single(AMP, "y x z", "t2")]), Form({"p": "a"}, ring("abcde")),
                     Form({}, [branch(Leaf(GATE, 1, "u") & Leaf(GATE, 1, "v"), "x y", "t")])):
            self.check(form, all_matchings(form, form))

    def test_no_items(self):
        found = Exchanges(Form({}, []))
        self.assertEqual([found.many, list(found.chain()), found.net_classes(), found.id_classes()], [1, [], [], []])
        self.assertEqual(found.factors(Matching({}, {})), [])
        found = Exchanges(Form({"p": "y", "q": "x", "r": "x"}, []))
        self.assertEqual([found.many, list(found.chain()), found.net_classes(), found.id_classes()],
                         [1, [("x", ["x"]), ("y", ["y"])], [["x"], ["y"]], []])

    def test_factors_of_the_identity(self):
        form = Form({}, ring("abcdef"))
        found = Exchanges(form)
        indices = found.factors(Matching.identity(form))
        told = Matching.identity(form)
        for index in indices:
            told = told * found.generators[index]
        self.assertTrue(told.is_identity)

    def test_other_values(self):
        form = Form({"p": "a"}, [*wires("ab ac"), single(TAP, "a", "t1"), single(TAP, "a", "t2")])
        found = Exchanges(form)
        nets, ids = {net: net for net in "abc"}, {name: name for name in ("t1", "t2", "w00", "w01")}
        swapped = {**nets, "b": "c", "c": "b"}
        crossed = {**ids, "w00": "w01", "w01": "w00"}
        self.assertEqual([Matching(nets, ids) in found, Matching(swapped, crossed) in found], [True, True])
        self.assertIn(Matching(swapped, {**crossed, "t1": "t2", "t2": "t1"}), found)
        wrong_ones = [Matching(swapped, ids), Matching(nets, crossed), Matching({"b": "b", "c": "c"}, ids), Matching({}, {}),
                      Matching({**nets, "d": "d"}, ids), Matching(nets, {**ids, "u": "u"}), Matching({**nets, "b": "d"}, ids),
                      Matching({**nets, "a": "b", "b": "a"}, ids), Matching(nets, {**ids, "t1": "w00", "w00": "t1"}),
                      Matching(nets, {**ids, "t1": "v"}), Matching(nets, {name: ids[name] for name in ("t1", "t2")})]
        for wrong in (*wrong_ones, nets, (nets, ids), found, 3, "m", *ODD):
            self.assertNotIn(wrong, found)
            self.fails(InvalidMatching, wrong, found.factors, wrong)
        self.assertEqual(found.many, 4)

    def test_all_matchings_are_one_times_the_exchanges(self):
        chance = Random(22)
        for form in (Form({}, ring("abcde")), Form({"p": "a"}, wires("ab ac ad")), random_form(chance), random_form(chance)):
            other = renamed(chance, form)
            first, found = matching(form, other), Exchanges(other)
            told = list(matchings(form, other))
            self.assertEqual(len(told), found.many)
            for m in told:
                self.assertIn(~first * m, found)

    def test_results_are_new(self):
        form = Form({}, ring("abcd"))
        found = Exchanges(form)
        for net, nets in found.chain():
            nets.clear()
        found.net_classes()[0].clear()
        found.id_classes().clear()
        found.factors(found.generators[0]).clear()
        self.check(form, all_matchings(form, form))
        self.assertEqual(list(found.chain())[0], ("a", ["a", "b", "c", "d"]))
        self.assertEqual([found.net_classes(), len(found.id_classes()), len(found.factors(found.generators[0]))],
                         [[["a", "b", "c", "d"]], 1, 1])

    def test_search_without_trails(self):
        # The trails of the start leave hardly a candidate that fails in forms within the limits.
        for mine, others in (("abc", "defghi"), ("abcdef", "ghi")):
            form = Form({}, ring(mine) + ring(others, "v"))
            colours = settled(form, form, first_colours(form, form))
            reached, found = _level(form, colours, "a", [])
            self.assertEqual([sorted(reached), len(found) > 0], [list(mine), True])
            for place, m in reached.items():
                self.assertEqual([m("a"), m in Exchanges(form)], [place, True])

    def test_two_calls(self):
        form = Form({}, [single(TWO, "w x", "t1"), single(TWO, "y z", "t2")])
        one, other = Exchanges(form), Exchanges(form)
        self.assertEqual([list(one), one.factors(one.generators[2])], [list(other), other.factors(one.generators[2])])


class GreatTest(Case):
    def found(self, form, many):
        begun = process_time()
        found = Exchanges(form)
        self.assertLess(process_time() - begun, 5)
        self.assertEqual(found.many, many)
        self.assertLessEqual(len(found), 400)
        total = 1
        for _, nets in found.chain():
            total *= len(nets)
        self.assertEqual(many % total, 0)
        chance = Random(4)
        for _ in range(5):
            m = Matching.identity(form)
            for at in range(20):
                m = m * found.generators[chance.randrange(len(found))]
            self.assertIn(m, found)
            indices, told = found.factors(m), Matching.identity(form)
            for index in indices:
                told = told * found.generators[index]
            self.assertEqual([told == m, len(indices) <= 400], [True, True])
        return found

    def test_equal_items(self):
        nets = [f"n{at:02}" for at in range(24)]
        form = Form({}, [single(TWO, f"{nets[2 * at]} {nets[2 * at + 1]}", f"t{at:02}") for at in range(12)])
        found = self.found(form, factorial(12) * 2 ** 12)
        self.assertEqual([len(places) for _, places in found.chain()], [many for at in range(12, 0, -1) for many in (2 * at, 1)])
        self.assertEqual([found.net_classes(), found.id_classes()], [[nets], [[f"t{at:02}" for at in range(12)]]])

    def test_equal_items_on_one_net(self):
        found = self.found(Form({}, [single(TAP, "x", f"t{at:02}") for at in range(12)]), factorial(12))
        self.assertEqual([list(found.chain()), found.net_classes(), len(found.id_classes())], [[("x", ["x"])], [["x"]], 1])

    def test_wide_items(self):
        nets = [f"n{at:02}" for at in range(24)]
        form = Form({}, [single(SIX, " ".join(nets[6 * at:6 * at + 6]), f"t{at}") for at in range(4)])
        self.found(form, factorial(4) * factorial(6) ** 4)

    def test_one_branch_with_many_leaves(self):
        nets = [f"n{at:02}" for at in range(22)]
        leaves = Leaf(GATE, 1, nets[0])
        for net in nets[1:]:
            leaves = leaves | Leaf(GATE, 1, net)
        self.found(Form({}, [branch(leaves, "a b", "t")]), 2 * factorial(22))

    def test_ring(self):
        found = self.found(Form({}, ring("abcdefghij")), 20)
        self.assertEqual(list(found.chain())[:2], [("a", list("abcdefghij")), ("b", ["b", "j"])])

    def test_limits(self):
        taps = Form({}, [single(TAP, "x", f"t{at:02}") for at in range(13)])
        self.fails(LimitExceeded, 13, Exchanges, taps)
        wide = Form({}, [single(SIX, " ".join(f"n{at}x{by}" for by in range(6)), f"t{at}") for at in range(4)] + [
            single(TAP, "x", "u")])
        self.fails(LimitExceeded, 25, Exchanges, wide)
        both = Form({}, [*wide.entries, *[single(TAP, "x", f"v{at}") for at in range(9)]])
        self.fails(LimitExceeded, 14, Exchanges, both)
