"""Points 12 and 13 and the interface section reducing: inner nets, steps, reduced forms, traces."""

from random import Random

from wishedwires.circuits import Circuit
from wishedwires.entries import Item
from wishedwires.errors import InvalidCircuit, InvalidStep
from wishedwires.expressions import Leaf
from wishedwires.forms import Form
from wishedwires.kinds import DirectedJoiningKind, JoiningKind
from wishedwires.parts import Part
from wishedwires.ratios import Ratio
from wishedwires.reading import parse
from wishedwires.reducing import Reduction, lets_trace, reduced
from tests.helper import AMP, ARROW, GATE, NO_PARTS, ODD, TAP, TWO, WIRE, Case, told

RES = JoiningKind("res", row="sum", side="inverse")
CAP = JoiningKind("cap", row="inverse", side="sum")
LED = DirectedJoiningKind("led", row="sum", side="sum")
GATED = JoiningKind("gated", "g", row="sum")
KINDS = {kind.name: kind for kind in (RES, CAP, LED, GATED, WIRE, GATE, ARROW, TAP, TWO, AMP)}


def circuit(ports, *parts):
    """Ports as "p:a q:b", parts as "name kind value net ..", in any order."""
    told_parts = {}
    for line in parts:
        name, kind, value, *nets = line.split()
        told_parts[name] = Part(KINDS[kind], Ratio.parse(value), *nets)
    return Circuit(dict(port.split(":") for port in ports.split()), told_parts)


def record(ports, items, dropped=""):
    return Form(dict(port.split(":") for port in ports.split()), items, dropped.split()).record


def branch(expression, nets, names):
    return Item.branch(expression, *nets.split(), names.split())


def steps_by_the_words(form):
    """The steps that point 13 allows on a form's items, out of the form alone."""
    ends = [(item, end) for item in form if item.is_branch for end in item.ends]
    ported = list(form.ports.values())
    singled = [net for item in form if not item.is_branch for net in item.slots]
    controls = [net for item in form if item.is_branch for net in item.expression.control_nets]
    steps = []
    for net in form.all_nets():
        there = [item for item, end in ends if end == net]
        if net in ported or net in singled or net in controls:
            continue
        if len(there) == 2 and there[0] is not there[1]:
            steps.append(("row", net))
        if len(there) == 1:
            steps.append(("loose", there[0].id, net))
    branches = [item for item in form if item.is_branch]
    steps += [("loop", item.id) for item in branches if len(set(item.ends)) == 1]
    steps += [("side", one.id, other.id) for one in branches for other in branches
              if one.id < other.id and len(set(one.ends)) == 2 and set(one.ends) == set(other.ends)]
    return steps


def random_circuit(chance, parts=6):
    nets = "abcdef"[:chance.randint(2, 6)]
    kinds = [RES, CAP, LED, GATED, WIRE, GATE, ARROW, RES, RES, CAP] + chance.choice(([], [TAP, TWO, AMP]))
    made = {}
    for at in range(chance.randint(0, parts)):
        kind = chance.choice(kinds)
        made[f"t{at}"] = Part(kind, chance.choice((1, 2, Ratio(1, 2))), *[chance.choice(nets) for _ in kind.pins])
    return Circuit({port: chance.choice(nets) for port in "pqr" if chance.random() < 0.5}, made)


class StepsTest(Case):
    def check(self, drawn, steps):
        reduction = Reduction(drawn)
        self.assertEqual(sorted(reduction.steps()), sorted(steps))
        return reduction

    def test_row(self):
        reduction = self.check(circuit("p:a q:b", "r1 res 2 a x", "r2 res 1/2 b x"), [("row", "x")])
        reduction.do(("row", "x"))
        self.assertEqual(reduction.form().record, record("p:a q:b", [branch(Leaf(RES, Ratio(5, 2)), "a b", "r1 r2")]))
        self.assertEqual([reduction.steps(), reduction.trace], [[], (("row", "x"),)])

    def test_side(self):
        drawn = circuit("p:a q:b", "r2 res 2 a b", "r1 res 2 b a", "r3 wire 1 a b")
        reduction = self.check(drawn, [("side", "r1", "r2"), ("side", "r1", "r3"), ("side", "r2", "r3")])
        reduction.do(("side", "r2", "r3"))
        self.assertEqual(reduction.steps(), [("side", "r1", "r2")])
        self.assertEqual(sorted(item.names for item in reduction.form()), [("r1",), ("r2", "r3")])
        reduction.do(("side", "r1", "r2"))
        self.assertEqual(reduction.form().record,
                         record("p:a q:b", [branch(Leaf(RES, 1) | Leaf(WIRE, 1), "a b", "r1 r2 r3")]))
        self.assertEqual(reduction.trace, (("side", "r2", "r3"), ("side", "r1", "r2")))

    def test_loop_and_loose(self):
        drawn = circuit("p:a", "r1 res 2 a a", "r2 res 2 a x", "r3 wire 1 y z", "r4 wire 1 u u")
        reduction = self.check(drawn, [("loop", "r1"), ("loose", "r2", "x"), ("loose", "r3", "y"), ("loose", "r3", "z"),
                                       ("loop", "r4")])
        reduction.do(("loose", "r3", "z"))
        self.assertEqual(reduction.form().dropped, ("r3",))
        self.check_steps_left(reduction, [("loop", "r1"), ("loose", "r2", "x"), ("loop", "r4")])
        reduction.finish()
        self.assertEqual([reduction.form().record, len(reduction.trace)], [record("p:a", [], "r1 r2 r3 r4"), 4])

    def check_steps_left(self, reduction, steps):
        self.assertEqual(sorted(reduction.steps()), sorted(steps))

    def test_no_row_of_one_branch(self):
        self.check(circuit("", "r1 res 1 x x"), [("loop", "r1")])

    def test_two_branches_on_two_inner_nets(self):
        self.check(circuit("", "r1 res 1 x y", "r2 res 1 y x"), [("row", "x"), ("row", "y"), ("side", "r1", "r2")])

    def test_what_makes_a_net_not_inner(self):
        chain = ("r1 res 2 a x", "r2 res 3 x b")
        self.check(circuit("p:a q:b s:x", *chain), [])
        self.check(circuit("p:a q:b", *chain, "t tap 1 x"), [])
        self.check(circuit("p:a q:b", *chain, "t two 1 x b"), [])
        self.check(circuit("p:a q:b", *chain, "g gate 1 a b x"), [])
        self.check(circuit("p:a q:b", "g gate 1 a x x", "r2 res 3 x b"), [])
        self.check(circuit("p:a", "g gate 1 a x x"), [])
        self.check(circuit("p:a q:b", *chain, "r3 res 1 x a"), [("side", "r1", "r3")])

    def test_each_step_of_random_circuits(self):
        chance = Random(1)
        for _ in range(250):
            drawn = random_circuit(chance)
            reduction = Reduction(drawn)
            self.check_steps_left(reduction, steps_by_the_words(reduction.form()))
            while reduction.steps():
                reduction.do(chance.choice(reduction.steps()))
                self.check_steps_left(reduction, steps_by_the_words(reduction.form()))

    def test_steps_are_new(self):
        reduction = Reduction(circuit("p:a q:b", "r1 res 2 a x", "r2 res 1/2 b x"))
        reduction.steps().clear()
        self.assertEqual(reduction.steps(), [("row", "x")])

    def test_wrong_steps(self):
        drawn = circuit("p:a q:b", "r2 res 2 a b", "r1 res 2 b a", "r3 wire 1 a x", "r4 wire 1 y y", "t tap 1 a")
        wrong_ones = [("row", "x"), ("row", "a"), ("row", "y"), ("row",), ("side", "r2", "r1"), ("side", "r1", "r1"),
                      ("side", "r1", "r3"), ("loop", "r1"), ("loop", "t"), ("loop", "none"), ("loose", "r3", "a"),
                      ("loose", "r3"), ("loose", "r1", "x"), ["loose", "r3", "x"], ("loose", "r3", "x", "x"), "row",
                      ("drop", "r4"), ("loop", ["r4"]), (("loop", "r4"),), ("loose", None, "x"), 3, *ODD]
        reduction = Reduction(drawn)
        reduction.do(("side", "r1", "r2"))
        before = (reduction.form().record, reduction.trace, reduction.steps())
        for wrong in [*wrong_ones, ("side", "r1", "r2")]:
            self.fails(InvalidStep, wrong, reduction.do, wrong)
            self.assertEqual((reduction.form().record, reduction.trace, reduction.steps()), before)

    def test_form_so_far(self):
        drawn = circuit("q:b p:a", "r1 res 2 a x", "g gate 3 x b c", "t two 1 c a")
        self.assertEqual(Reduction(drawn).form().record, record("p:a q:b", [
            branch(Leaf(RES, 2), "a x", "r1"), branch(Leaf(GATE, 3, "c"), "x b", "g"), Item.single(TWO, 1, ["a", "c"], ["t"])]))
        self.assertEqual(list(Reduction(drawn).form().ports), ["q", "p"])

    def test_wrong_circuits(self):
        for wrong in NO_PARTS:
            self.fails(InvalidCircuit, wrong, Reduction, wrong)
            self.fails(InvalidCircuit, wrong, reduced, wrong)
            self.fails(InvalidCircuit, wrong, lets_trace, wrong, 3, 4)

    def test_the_circuit_is_left_alone(self):
        drawn = circuit("p:a q:b", "r1 res 2 a x", "r2 res 3 x b")
        before = told(drawn)
        reduction = Reduction(drawn)
        form = reduced(drawn)
        self.assertEqual(told(drawn), before)
        drawn["r1"].value = 7
        drawn["r2"].set_nets("a", "a")
        drawn.set_port("s", "x")
        reduction.finish()
        self.assertEqual([reduction.form().record, form.record], [record("p:a q:b", [branch(Leaf(RES, 5), "a b", "r1 r2")])] * 2)


class ReducedTest(Case):
    def test_one_form_whatever_the_order(self):
        chance = Random(2)
        for _ in range(400):
            drawn = random_circuit(chance, 9)
            form = reduced(drawn)
            self.assertEqual(steps_by_the_words(form), [])
            self.assertEqual(sorted([name for item in form for name in item.names] + list(form.dropped)), drawn.part_names())
            for _ in range(3):
                reduction = Reduction(drawn)
                while reduction.steps():
                    reduction.do(chance.choice(reduction.steps()))
                self.assertEqual(reduction.form().record, form.record)
                self.assertTrue(lets_trace(drawn, list(reduction.trace), form))

    def test_all_orders(self):
        drawn = circuit("p:a q:b", "r1 res 1 a x", "r2 res 1 x b", "r3 res 2 a b", "r4 led 1 b y", "r5 led 1 y a",
                        "r6 wire 1 a z", "r7 wire 1 z a")
        records, waiting = [], [()]
        while waiting:
            trace = waiting.pop()
            reduction = Reduction(drawn)
            for step in trace:
                reduction.do(step)
            records += [] if reduction.steps() else [reduction.form().record]
            waiting += [(*trace, step) for step in reduction.steps()]
        self.assertGreater(len(records), 50)
        self.assertEqual(len(set(records)), 1)
        bundle = Leaf(RES, 1) | -Leaf(LED, 2)
        self.assertEqual(records[0], record("p:a q:b", [branch(bundle, "a b", "r1 r2 r3 r4 r5")], "r6 r7"))

    def test_bundle_to_leaf_to_row(self):
        form = reduced(circuit("p:a q:b", "r1 res 2 a x", "r2 res 2 x a", "r3 res 1 x b", "c1 cap 1 b y", "c2 cap 1 y b"))
        self.assertEqual(form.record, record("p:a q:b", [branch(Leaf(RES, 2), "a b", "r1 r2 r3")], "c1 c2"))
        form = reduced(circuit("p:a q:b", "c1 cap 1 a x", "c2 cap 1 x a", "c3 cap 2 x y", "r3 res 1 y b"))
        self.assertEqual(form.entries[0].expression, Leaf(CAP, 1) & Leaf(RES, 1))

    def test_directed_back_to_back(self):
        form = reduced(circuit("p:a q:b", "d1 led 1 a x", "d2 led 2 b x"))
        self.assertEqual(form.record, record("p:a q:b", [branch(Leaf(LED, 1) & -Leaf(LED, 2), "a b", "d1 d2")]))
        form = reduced(circuit("p:a q:b", "d1 led 1 a x", "d2 led 2 x b"))
        self.assertEqual(form.record, record("p:a q:b", [branch(Leaf(LED, 3), "a b", "d1 d2")]))
        form = reduced(circuit("p:a q:b", "d1 arrow 1 a b", "d2 arrow 1 b a"))
        self.assertEqual(form.record, record("p:a q:b", [branch(Leaf(ARROW, 1) | -Leaf(ARROW, 1), "b a", "d1 d2")]))

    def test_port_in_a_row(self):
        form = reduced(circuit("p:a q:b s:x", "r1 res 2 a x", "r2 res 3 x b"))
        self.assertEqual([len(form), form.dropped], [2, ()])

    def test_rings(self):
        ring = ("r1 res 1 x y", "r2 res 1 y z", "r3 led 1 z x")
        self.assertEqual(reduced(circuit("", *ring)).record, record("", [], "r1 r2 r3"))
        self.assertEqual(reduced(circuit("p:x", *ring)).record, record("p:x", [], "r1 r2 r3"))
        self.assertEqual(len(reduced(circuit("p:x q:z", *ring))), 1)
        self.assertEqual(len(reduced(circuit("p:x q:z s:y", *ring))), 3)

    def test_loops_and_loose_ends_follow(self):
        tail = ("r1 res 1 a x", "r2 res 1 x y", "r3 res 1 y z", "r4 wire 1 z u", "r5 wire 1 u v", "r6 wire 1 v z")
        self.assertEqual(reduced(circuit("p:a", *tail)).record, record("p:a", [], "r1 r2 r3 r4 r5 r6"))
        self.assertEqual(reduced(circuit("p:a q:u", *tail)).entries[0].names, ("r1", "r2", "r3", "r4", "r5", "r6"))

    def test_a_drop_frees_a_net(self):
        chain = ("r1 res 2 a x", "r2 res 3 x b")
        for drop in ("g gate 1 a a x", "g gate 1 a y x", "g gate 1 u v x"):
            form = reduced(circuit("p:a q:b", *chain, drop))
            self.assertEqual(form.record, record("p:a q:b", [branch(Leaf(RES, 5), "a b", "r1 r2")], "g"))
        form = reduced(circuit("p:a q:b", *chain, "g gate 1 a b x"))
        self.assertEqual([len(form), form.dropped], [3, ()])
        form = reduced(circuit("p:a", "r1 res 1 a x", "g gate 1 y y x", "h gate 1 z z y"))
        self.assertEqual(form.record, record("p:a", [], "g h r1"))

    def test_control_pins(self):
        form = reduced(circuit("p:a q:b r:c", "g1 gated 1 a x c", "g2 gated 2 x b c"))
        self.assertEqual(form.record, record("p:a q:b r:c", [branch(Leaf(GATED, 3, "c"), "a b", "g1 g2")]))
        form = reduced(circuit("p:a q:b r:c s:d", "g1 gated 1 a x c", "g2 gated 2 x b d"))
        self.assertEqual(form.entries[0].expression, Leaf(GATED, 1, "c") & Leaf(GATED, 2, "d"))
        self.assertEqual(len(reduced(circuit("p:a q:b", "g1 gated 1 a x x", "g2 gated 2 x b b"))), 2)

    def test_the_other_way_round(self):
        one = reduced(circuit("p:a q:b", "r1 gate 1 a b c", "r2 arrow 1 a b", "t tap 1 c"))
        other = reduced(circuit("p:b q:a", "r1 gate 1 b a c", "r2 arrow 1 b a", "t tap 1 c"))
        self.assertEqual(one.record, reduced(circuit("q:b p:a", "r2 gate 1 b a c", "r1 arrow 1 a b", "t tap 1 c")).record)
        self.assertNotEqual(one, other)
        self.assertEqual(one.entries[0].mapped({"a": "b", "b": "a"}), other.entries[0])

    def test_singles_stay(self):
        form = reduced(circuit("", "t1 tap 2 x", "t2 two 1 y x", "t3 amp 1 z z z"))
        self.assertEqual(form.record, record("", [Item.single(TAP, 2, ["x"], ["t1"]), Item.single(TWO, 1, ["x", "y"], ["t2"]),
                                                  Item.single(AMP, 1, ["z"] * 3, ["t3"])]))

    def test_empty(self):
        self.assertEqual(reduced(Circuit()).record, ((), (), ()))
        self.assertEqual(reduced(Circuit({"p": "a"})).record, ((("p", "a"),), (), ()))
        self.assertEqual([Reduction(Circuit()).trace, Reduction(Circuit()).steps()], [(), []])

    def test_values_of_a_ladder(self):
        rungs = [f"r{at} res 1 n{at} n{at + 1}\npart s{at} res 1 n{at + 1} g" for at in range(30)]
        text = "\n".join(["path res : row sum side inverse", "port p n0", "port q g"] + [f"part {rung}" for rung in rungs])
        form = reduced(parse(text))
        worth = Ratio(2)
        for _ in range(29):
            worth = 1 + Ratio(1).over(1 + Ratio(1).over(worth))
        self.assertEqual([len(form), form.entries[0].worths], [1, (worth,)])
        self.assertEqual(len(form.entries[0].names), 60)


class TraceTest(Case):
    def setUp(self):
        self.drawn = circuit("p:a q:b", "r1 res 2 a x", "r2 res 3 x b", "r3 res 5 b a", "r4 wire 1 b y")
        self.trace = [("loose", "r4", "y"), ("row", "x"), ("side", "r1", "r3")]
        self.form = reduced(self.drawn)

    def test_right(self):
        for trace in (self.trace, [self.trace[1], self.trace[0], self.trace[2]], self.trace[1:] + self.trace[:1]):
            self.assertIs(lets_trace(self.drawn, trace, self.form), True)
        reduction = Reduction(self.drawn)
        reduction.finish()
        self.assertTrue(lets_trace(self.drawn, list(reduction.trace), self.form))
        self.assertTrue(lets_trace(Circuit(), [], reduced(Circuit())))

    def test_wrong_trace(self):
        for wrong in (tuple(self.trace), self.trace[:2], self.trace[::-1], [*self.trace, self.trace[0]], [*self.trace, 3],
                      [None], [list(step) for step in self.trace], self.trace[:2] + [("side", "r3", "r1")], 3, *ODD):
            self.assertIs(lets_trace(self.drawn, wrong, self.form), False)

    def test_steps_left(self):
        reduction = Reduction(self.drawn)
        for done in range(3):
            trace = self.trace[:done]
            self.assertIs(lets_trace(self.drawn, trace, reduction.form()), False)
            reduction.do(self.trace[done])

    def test_wrong_form(self):
        other = Form(self.form.ports, self.form.entries, ["r5"])
        early = Form(self.form.ports, self.form.entries)
        renamed = Form(self.form.ports, [Item.branch(self.form.entries[0].expression, "a", "b", ["r1", "r2"])], ["r4"])
        worth = Form(self.form.ports, [Item.branch(Leaf(RES, 1), "a", "b", ["r1", "r2", "r3"])], ["r4"])
        moved = Form({"p": "a", "q": "b", "s": "b"}, self.form.entries, ["r4"])
        for wrong in (other, early, renamed, worth, moved, self.form.record, self.form.entries, 3, *ODD):
            self.assertIs(lets_trace(self.drawn, self.trace, wrong), False)
        again = Form(dict(reversed(self.form.ports.items())), self.form.entries, ["r4"])
        self.assertTrue(lets_trace(self.drawn, self.trace, again))

    def test_values_are_not_changed(self):
        trace = list(self.trace)
        self.assertTrue(lets_trace(self.drawn, trace, self.form))
        self.assertEqual(trace, self.trace)


class TwelvePartsTest(Case):
    """A circuit of twelve parts of all sorts, its trace, and the trace with a step left out."""

    TEXT = """path dio : directed
path res : row sum side inverse
path sw g : row sum
pins hub p q o : p q
port p n0
port q n3
part r0 res 2 n0 n1
part r1 res 3 n1 n2
part r2 sw 2 n2 n3 n1
part r3 res 5 n0 n4
part r4 res 1 n4 n3
part r5 sw 4 n3 n5 n4
part r6 res 1 n5 n5
part r7 dio 2 n0 n6
part r8 dio 1 n6 n3
part r9 hub 1 n0 n3 n3
part r10 res 7 n0 n7
part r11 res 2 n7 n0"""

    def test_answers(self):
        drawn = parse(self.TEXT)
        reduction = Reduction(drawn)
        while reduction.steps():
            steps = reduction.steps()
            self.assertCountEqual(steps, steps_by_the_words(reduction.form()))
            reduction.do(steps[0])
        form, trace = reduction.form(), list(reduction.trace)
        self.assertEqual([len(trace), form.record], [8, reduced(drawn).record])
        self.assertEqual([item.names for item in form],
                         [("r1", "r2"), ("r0",), ("r3", "r4", "r7", "r8"), ("r9",)])
        self.assertEqual([form.dropped, form.item_of("r3").ends in (("n0", "n3"), ("n3", "n0"))],
                         [("r10", "r11", "r5", "r6"), True])
        told = [lets_trace(drawn, trace[:at] + trace[at + 1:], form) for at in range(3)]
        self.assertEqual([lets_trace(drawn, trace, form), *told], [True, False, False, False])

    def test_a_circuit_that_is_changed_meanwhile(self):
        drawn = parse(self.TEXT)
        right = reduced(drawn)
        reduction = Reduction(drawn)
        reduction.do(reduction.steps()[-1])
        drawn["r0"].set_value(99)
        drawn["r3"].set_nets("far", "away")
        drawn.take_out("r9")
        drawn.drop_port("p")
        early = reduction.form()
        reduction.finish()
        self.assertEqual([reduction.form().record, len(early)], [right.record, 11])

    def test_steps_are_told_anew(self):
        reduction = Reduction(parse(self.TEXT))
        steps = reduction.steps()
        reduction.steps().clear()
        self.assertEqual(reduction.steps(), steps)
        self.fails(InvalidStep, ("row", "n0"), reduction.do, ("row", "n0"))
        self.assertEqual([reduction.steps(), reduction.trace], [steps, ()])
