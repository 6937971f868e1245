"""Points 3 (d), 25, 26 and 27 and the interface section mending."""

from random import Random

from wishedwires.circuits import Circuit
from wishedwires.errors import InvalidForm, InvalidKind, InvalidMend, LimitExceeded, NothingToUndo, UnknownName
from wishedwires.expressions import Leaf
from wishedwires.forms import Form
from wishedwires.kinds import JoiningKind, PathKind, PinKind
from wishedwires.least import least_differences, weight
from wishedwires.matching import alike
from wishedwires.mending import Board, cost, laid, mends
from wishedwires.parts import Part
from wishedwires.pricing import Pairing, Prices
from wishedwires.ratios import Ratio
from wishedwires.reducing import Reduction, reduced
from wishedwires.ways import ways
from tests.helper import (AMP, ARROW, GATE, NO_PARTS, ODD, TAP, TWO, WIRE, WRONG_NAMES, Case, branch, random_form, single)
from tests.test_reducing import steps_by_the_words

RES = JoiningKind("res", row="sum", side="inverse")


def sketch(board):
    """All that is told of a board's sketch."""
    return (board.ports, [(name, board.slots_of(name), board.worths_of(name)) for name in board.ids()], board.done,
            len(board))


def random_pairing(chance, wished, drawn, prices=None):
    pairing = Pairing(wished, drawn, prices)
    for item in wished:
        for other in drawn:
            if item.id in pairing or other.id not in pairing.surplus_ids or chance.random() < 0.3:
                continue
            try:
                found = ways(item, other)
            except LimitExceeded:
                continue
            if found:
                pairing[item.id] = (other.id, chance.choice(found))
    return pairing


def reduced_form(chance):
    """A reduced form, as the sketch of some form is reduced."""
    return reduced(laid(random_form(chance)))


class BoardTest(Case):
    def setUp(self):
        self.row = Leaf(GATE, 2, "g") & (Leaf(WIRE, 3) | Leaf(WIRE, 5))
        self.wished = Form({"p": "x", "q": "y"}, [single(TAP, "y", "t", 7), branch(self.row, "x y", "w")])
        self.drawn = Form({"q": "a", "p": "b"}, [single(AMP, "a b c", "t"), branch(self.row, "a c", "u"),
                                                 single(TWO, "c d", "port", 4)])
        self.board = Board(self.wished, self.drawn)
        self.wide = self.drawn.item_of("u").slots

    def test_the_beginning(self):
        board = self.board
        self.assertIs(board.wished, self.wished)
        self.assertIs(board.drawn, self.drawn)
        self.assertEqual([board.ports, list(board.ports), board.ids()], [{"q": "a", "p": "b"}, ["q", "p"], ["port", "t", "u"]])
        self.assertEqual([len(board), board.done, "t" in board, "w" in board], [3, (), True, False])
        for name in ("t", "u", "port"):
            item = self.drawn.item_of(name)
            self.assertEqual([board.slots_of(name), board.worths_of(name)], [item.slots, item.worths])
        for other in (*ODD, 3, "v", "w", "p", ("t",)):
            self.assertFalse(other in board)
            self.fails(UnknownName, other, board.slots_of, other)
            self.fails(UnknownName, other, board.worths_of, other)
        board.ports["p"] = "z"
        board.ids().append("z")
        self.assertEqual([board.ports, board.ids()], [{"q": "a", "p": "b"}, ["port", "t", "u"]])

    def test_wrong_forms(self):
        for wrong in (*NO_PARTS, Circuit()):
            self.fails(InvalidForm, wrong, Board, wrong, wrong)
            self.fails(InvalidForm, wrong, Board, self.wished, wrong)
        for ports in ({}, {"p": "a"}, {"p": "a", "r": "a"}, {"p": "a", "q": "a", "r": "a"}):
            drawn = Form(ports, [])
            self.fails(InvalidForm, drawn, Board, self.wished, drawn)

    def test_take(self):
        self.board.do(("take", "t"))
        self.assertEqual([self.board.ids(), self.board.done, len(self.board)], [["port", "u"], (("take", "t"),), 2])
        self.fails(UnknownName, "t", self.board.slots_of, "t")
        self.refused([("take", "t"), ("take", "v"), ("take",), ("take", "u", "u"), ("take", 3), ("take", ["u"]), ["take", "u"],
                      ("taken", "u"), ("take", None)])

    def test_value(self):
        self.board.do(("value", "u", 1, Ratio(9, 2)))
        self.assertEqual([[str(worth) for worth in self.board.worths_of("u")], self.board.slots_of("u")],
                         [["2", "9/2", "5"] if str(self.drawn.item_of("u").worths[1]) == "3" else
                          [str(self.drawn.item_of("u").worths[0]), "9/2", str(self.drawn.item_of("u").worths[2])], self.wide])
        self.board.do(("value", "t", 0, Ratio(8)))
        self.assertEqual(self.board.worths_of("t"), (Ratio(8),))
        self.assertEqual(self.drawn.item_of("t").worths, (Ratio(1),))
        wrong = [("value", "u", at, Ratio(1)) for at in (-1, 3, True, False, None, "0", 1.5)]
        wrong += [("value", "u", 0, worth) for worth in (0, Ratio(0), Ratio(-1), True, None, "2", 1.5)]
        wrong += [("value", "v", 0, Ratio(1)), ("value", "u", 0), ("value", "u", 0, Ratio(1), 1), ("value", 3, 0, Ratio(1)),
                  ("value", "t", 1, Ratio(1)), ("value", ["u"], 0, Ratio(1)), ["value", "u", 0, Ratio(1)]]
        self.refused(wrong)

    def test_move(self):
        self.board.do(("move", (("port", "p"), ("t", 1)) if self.drawn.item_of("t").slots[1] == "b" else (
            ("port", "p"), ("t", 0)), "a"))
        self.assertEqual([self.board.ports, self.board.slots_of("t")], [{"q": "a", "p": "a"}, ("a", "a", "c")])
        self.board.do(("move", (("port", 0),), "new/net"))
        self.assertEqual(self.board.slots_of("port"), ("new/net", "d"))
        self.board.do(("move", (("u", 2), ), "h"))
        self.assertEqual(self.board.slots_of("u"), (*self.wide[:2], "h"))
        pins = (("port", "p"), ("port", "q"))
        wrong = [("move", pins, net) for net in ("a", *WRONG_NAMES)]
        wrong += [("move", told, "n") for told in (
            (), None, 3, list(pins), (("port", "p"), ("port", "p")), (("port", "p"), ("t", 2)), (("port", "r"),), (("t", 3),),
            (("t", -1),), (("t", True),), (("t", False),), (("t", "0"),), (("t", None),), (("v", 0),), (["t", 0],), (("t",),), ("t",),
            (("t", 0, 0),), ((["t"], 0),), (("port", ["p"]),), (("port", None),), (("port", 2),), (3,))]
        wrong += [("move", pins), ("move", pins, "n", "n"), ["move", pins, "n"]]
        self.refused(wrong)

    def test_put(self):
        self.board.do(("put", "t", "new/t", ("z",)))
        self.assertEqual([self.board.slots_of("new/t"), self.board.worths_of("new/t")], [("z",), (Ratio(7),)])
        self.board.do(("take", "t"))
        self.board.do(("put", "t", "t", ("a",)))
        self.board.do(("put", "w", "v", ("a", "b", "c")))
        self.assertEqual([self.board.slots_of("v"), self.board.worths_of("v")],
                         [("a", "b", "c"), self.wished.item_of("w").worths])
        wrong = [("put", "t", name, ("z",)) for name in ("t", "u", "port", "v", *WRONG_NAMES)]
        wrong += [("put", "w", "n", nets) for nets in ((), ("a", "b"), ("a", "b", "c", "d"), ["a", "b", "c"], ("a", "b", "C"),
                                                       ("a", "b", None), None, "abc", 3)]
        wrong += [("put", name, "n", ("z",)) for name in ("u", "x", None, 3, ["t"])]
        wrong += [("put", "t", "n"), ("put", "t", "n", ("z",), 1), ["put", "t", "n", ("z",)]]
        self.refused(wrong)

    def refused(self, wrong):
        """None of these values is a deed that can be done now, alone or in a play."""
        before = sketch(self.board)
        for deed in (*wrong, *ODD, 3, "take", ("drop", "t"), (True, "t"), (["take"], "t")):
            self.fails(InvalidMend, 0, self.board.do, deed)
            self.assertEqual(sketch(self.board), before)
            fine = ("put", "t", "fresh", ("z",))
            self.fails(InvalidMend, 1, self.board.play, [fine, deed, ("take", "nothing")])
            self.assertEqual(sketch(self.board), before)

    def test_play(self):
        deeds = [("take", "t"), ("put", "t", "t", ("b",)), ("move", (("port", "p"), ("t", 0)), "n")]
        self.board.play(deeds)
        self.assertEqual([self.board.done, self.board.ports, self.board.slots_of("t")],
                         [tuple(deeds), {"q": "a", "p": "n"}, ("n",)])
        deeds.append(3)
        self.board.play(())
        self.board.play([])
        self.assertEqual(len(self.board.done), 3)
        for wrong in (None, True, 3, "take", {}, {"take": "t"}, ("take", "t")):
            before = sketch(self.board)
            self.fails(InvalidMend, 0, self.board.play, wrong)
            self.assertEqual(sketch(self.board), before)
        self.fails(InvalidMend, 2, self.board.play, (("take", "t"), ("take", "u"), ("take", "t")))

    def test_undo(self):
        states = [sketch(self.board)]
        deeds = [("value", "t", 0, Ratio(5)), ("take", "u"), ("move", (("port", "p"),), "z"), ("put", "w", "u", ("a", "b", "c"))]
        for deed in deeds:
            self.board.do(deed)
            states.append(sketch(self.board))
        for state in states[-2::-1]:
            self.board.undo()
            self.assertEqual(sketch(self.board), state)
        for _ in range(2):
            self.fails(NothingToUndo, 0, self.board.undo)
            self.assertEqual(sketch(self.board), states[0])
        self.board.play(deeds)
        self.board.undo()
        self.assertEqual(sketch(self.board), states[3])
        self.board.do(deeds[3])
        self.assertEqual(sketch(self.board), states[4])

    def test_circuit_and_form(self):
        board = Board(self.drawn, self.drawn)
        self.assertEqual(board.circuit(), laid(self.drawn))
        self.assertIsNot(board.circuit(), board.circuit())
        self.assertEqual(board.form().record[0], self.drawn.record[0])
        told = board.circuit()
        told["t"]["p"] = "away"
        told.drop_port("p")
        self.assertEqual(board.circuit(), laid(self.drawn))
        board.do(("move", (("port", "p"),), "elsewhere"))
        self.assertEqual([board.circuit().ports, board.form().ports], [{"q": "a", "p": "elsewhere"}] * 2)
        self.assertEqual(board.form(), reduced(board.circuit()))


class LaidTest(Case):
    def test_the_example(self):
        form = reduced(Circuit({"p": "a"}, {"t": Part(PinKind("two", "m", "n"), 1, "a", "b")}))
        board = Board(form, form)
        board.do(("move", (("t", 0), ("port", "p")), "c"))
        self.assertEqual([board.slots_of("t"), board.ports, reduced(laid(form)) == form], [("c", "b"), {"p": "c"}, True])

    def test_rows_and_bundles(self):
        one = Leaf(GATE, 1, "g") & (Leaf(WIRE, 2) | (Leaf(WIRE, 3) & Leaf(ARROW, 4))) & Leaf(ARROW, 5, turn=-1)
        form = Form({"p": "x", "q": "y", "r": "g"}, [branch(one, "x y", "b a")])
        told = laid(form)
        self.assertEqual([len(told), told.ports, len(told.all_nets())], [5, {"p": "x", "q": "y", "r": "g"}, 6])
        self.assertIn("a", told)
        leaf = next(form.entries[0].expression.leaves())
        self.assertEqual([told["a"].kind, told["a"].value], [leaf.kind, leaf.value])
        gates = [part for _, part in told.parts() if part.kind == GATE]
        self.assertEqual([part["g"] for part in gates], ["g"])
        self.assertEqual(reduced(told), form)

    def test_turned_leaves(self):
        for turn in (1, -1):
            form = Form({"p": "x", "q": "y"}, [branch(Leaf(ARROW, 3, turn=turn), "x y", "a")])
            self.assertEqual(laid(form), Circuit({"p": "x", "q": "y"}, {
                "a": Part(ARROW, 3, *(("x", "y") if turn == 1 else ("y", "x")))}))

    def test_names(self):
        row = Leaf(WIRE, 1) & Leaf(WIRE, 2) & Leaf(WIRE, 3)
        form = Form({"p": "x1", "q": "x3"}, [branch(row, "x1 x3", "x2"), branch(row, "x1 x3", "x4"), single(TAP, "x5", "x6")])
        told = laid(form)
        self.assertEqual([len(told), len(told.all_nets())], [7, 7])
        self.assertTrue({"x2", "x4", "x6"} <= set(told.part_names()))
        self.assertFalse(set(told.part_names()) & set(told.all_nets()))
        self.assertEqual(told["x6"], Part(TAP, 1, "x5"))

    def test_reduced_again(self):
        chance, many = Random(1), 0
        for _ in range(300):
            form = random_form(chance)
            told = laid(form)
            again = reduced(told)
            self.assertEqual(reduced(laid(again)), again)
            plain = Reduction(told)
            plain.finish()
            self.assertEqual(plain.form(), again)
            many += again == form
        self.assertGreater(many, 30)

    def test_forms_on_which_no_step_can_be_done(self):
        chance, many = Random(4), 0

        def drawn(depth):
            if depth == 0 or chance.random() < 0.3:
                kind = chance.choice((RES, WIRE, ARROW, GATE))
                controls = [chance.choice("xyz") for _ in kind.controls]
                return Leaf(kind, chance.choice((1, 2)), *controls, turn=chance.choice((1, -1)))
            one, other = drawn(depth - 1), drawn(depth - 1)
            return one & other if chance.random() < 0.5 else one | other
        for _ in range(600):
            items = [branch(drawn(3), f"{chance.choice('wxyz')} {chance.choice('wxyz')}", f"t{at}") for at in range(2)]
            items.append(single(TWO, f"{chance.choice('wxyz')} {chance.choice('wxyz')}", "t2"))
            form = Form({name: chance.choice("wxyz") for name in "pq"}, items)
            if not steps_by_the_words(form):
                told = laid(form)
                self.assertEqual([reduced(told), len(told)], [form, sum(len(item.worths) for item in form)])
                many += 1
        self.assertGreater(many, 80)

    def test_unlike_kinds_of_one_name(self):
        res, tap = PathKind("tap"), PinKind("tap", "m")
        form = Form({"p": "x"}, [single(tap, "x", "a"), branch(Leaf(res, 1), "x y", "b")])
        board = Board(form, form)
        for call in (board.circuit, board.form, lambda: laid(form)):
            with self.assertRaises(InvalidKind) as caught:
                call()
            self.assertIn(caught.exception.given, (res, tap))
        board.do(("take", "a"))
        self.assertEqual(len(board.circuit()), 1)

    def test_no_items(self):
        self.assertEqual(laid(Form({}, [])), Circuit())
        self.assertEqual(laid(Form({"q": "x", "p": "x"}, [], ["t"])), Circuit({"p": "x", "q": "x"}))


class MendsTest(Case):
    def carried_out(self, pairing):
        """Plays the mends of a pairing, and looks at all that is promised of them."""
        deeds = mends(pairing)
        self.assertIsInstance(deeds, tuple)
        words = [deed[0] for deed in deeds]
        self.assertEqual(words, sorted(words, key=["take", "value", "move", "put"].index))
        self.assertEqual([words.count("take"), words.count("put")], [len(pairing.surplus_ids), len(pairing.lost_ids)])
        self.assertEqual([words.count("value"), words.count("move")], [len(pairing.revalued), pairing.wrong])
        self.assertEqual(str(cost(deeds, pairing.prices)), str(pairing.price))
        board = Board(pairing.wished, pairing.drawn)
        board.play(list(deeds))
        self.assertEqual(board.done, deeds)
        self.assertTrue(alike(board.form(), pairing.wished))
        return deeds

    def test_any_pairing(self):
        chance, many = Random(2), 0
        while many < 300:
            wished, drawn = reduced_form(chance), reduced_form(chance)
            if set(wished.ports) == set(drawn.ports):
                prices = Prices(lost=2, surplus=3, value=Ratio(5, 2), junction=7)
                self.carried_out(random_pairing(chance, wished, drawn, prices))
                many += 1

    def test_the_least_price(self):
        chance, many = Random(3), 0
        while many < 100:
            wished, drawn = reduced_form(chance), reduced_form(chance)
            try:
                if set(wished.ports) == set(drawn.ports) and weight(wished, drawn) <= 2000:
                    self.carried_out(least_differences(wished, drawn))
                    many += 1
            except LimitExceeded:
                pass

    def test_a_net_for_two_and_two_for_one(self):
        ends = [("a", "m"), ("b", "m"), ("c", "m")]
        split = [("a", "m"), ("b", "n"), ("c", "n")]
        kinds = [PinKind(f"k{at}", "m", "n") for at in range(3)]
        forms = [Form({"p": "a", "q": "b", "r": "c"}, [single(kind, " ".join(nets), f"t{at}")
                                                       for at, (kind, nets) in enumerate(zip(kinds, told))])
                 for told in (ends, split)]
        one_net = self.carried_out(least_differences(forms[0], forms[1]))
        self.assertIn(one_net, ((("move", (("t0", 1),), "n"),), (("move", (("t1", 1), ("t2", 1)), "m"),)))
        two_nets = self.carried_out(least_differences(forms[1], forms[0]))
        self.assertIn([deed[:2] for deed in two_nets], ([("move", (("t0", 1),))], [("move", (("t1", 1), ("t2", 1)))]))
        self.assertNotIn(two_nets[0][2], forms[0].all_nets())

    def test_each_sort(self):
        wished = Form({"p": "x", "q": "y"}, [single(TWO, "x z", "t1", 3), single(AMP, "x y w", "t2")])
        drawn = Form({"p": "x", "q": "x"}, [single(TWO, "x u", "t2", 4), single(TAP, "x", "t3")])
        pairing = Pairing(wished, drawn, Prices(lost=2))
        # The first pin of the one stands for the pin on the same net of the other one.
        pins = (0, 1) if (wished.item_of("t1").slots[0] == "x") == (drawn.item_of("t2").slots[0] == "x") else (1, 0)
        pairing["t1"] = ("t2", (pins, (0,)))
        deeds = self.carried_out(pairing)
        self.assertEqual(deeds[:2], (("take", "t3"), ("value", "t2", 0, Ratio(3))))
        self.assertEqual([len(deeds), deeds[2][0], deeds[3][:2], deeds[3][2] != "t2"], [4, "move", ("put", "t2"), True])
        self.assertEqual(str(pairing.price), "5")

    def test_nothing_to_do(self):
        form = Form({"p": "x"}, [single(TAP, "x", "t")])
        pairing = Pairing(form, form)
        pairing["t"] = ("t", ((0,), (0,)))
        self.assertEqual(mends(pairing), ())
        self.assertEqual(str(cost(())), "0")

    def test_cost(self):
        deeds = [("take", "t"), ("take", "u"), ("value", "t", 0, Ratio(1)), ("move", (("t", 0),), "x"), ("put", "t", "t", ())]
        prices = Prices(lost=10, surplus=Ratio(3, 2), value=100, junction=1000)
        for told in (deeds, tuple(deeds)):
            self.assertEqual([str(cost(told)), str(cost(told, prices)), type(cost(told))], ["5", "1113", Ratio])
        self.assertEqual([str(cost([], prices)), type(cost([]))], ["0", Ratio])
        self.assertEqual(cost(deeds, None), cost(deeds, Prices()))

    def test_pairings_stay(self):
        pairing = Pairing(Form({"p": "x"}, [single(TWO, "x y", "t")]), Form({"p": "u"}, [single(TWO, "u u", "s", 2)]))
        pairing["t"] = ("s", ((0, 1), (0,)))
        before = (pairing.paired(), pairing.meetings, pairing.kept, str(pairing.price))
        self.assertEqual(mends(pairing), mends(pairing))
        self.assertEqual((pairing.paired(), pairing.meetings, pairing.kept, str(pairing.price)), before)
