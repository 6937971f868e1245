"""Points 3 (a), 35 and 36 and the interface section editing."""

from random import Random

from wishedwires.circuits import Circuit
from wishedwires.editing import Session
from wishedwires.errors import (InvalidCircuit, InvalidEdit, InvalidKind, InvalidName, NameInUse, NothingToUndo,
                                NotPositive, RunFailed, UnknownName)
from wishedwires.kinds import JoiningKind, PinKind
from wishedwires.parts import Part
from wishedwires.ratios import Ratio
from wishedwires.reducing import reduced
from tests.helper import AMP, NO_PARTS, ODD, TAP, TWO, WIRE, WRONG_NAMES, WRONG_WORDS, Case, told

RES = JoiningKind("res", row="sum", side="inverse")
PART = Part(TAP, 1, "a")


def sample():
    return Circuit({"p": "a", "q": "b"}, {"r1": Part(RES, 2, "a", "x"), "r2": Part(RES, 3, "x", "b"), "t": Part(TAP, 1, "a"),
                                          "w": Part(WIRE, 1, "b", "y")})


def numbers(session):
    """The number of each item, by its names."""
    return {item.names: session.number_of(item.id) for item in session.form()}


def state(session):
    circuit = session.circuit()
    parts = [(name, part.kind.text, str(part.value), part.nets) for name, part in circuit.parts()]
    return list(circuit.ports.items()), parts, session.form().record, numbers(session), len(session)


# Values of no form at all.
NO_EDITS = (*ODD, 3, "remove", ("add",), ("add", "n"), ("add", "n", PART, 1), ("remove",), ("remove", "t", "t"), ("move", "t"),
            ("move", "t", "m"), ("move", "t", "m", "z", "z"), ("value", "t"), ("value", "t", 1, 1), ("port", "p"),
            ("port", "p", "a", "a"), ("drop",), ("drop", "p", "a"), ["remove", "t"], ("take", "t"), ("Remove", "t"), (True, "t"),
            (None, "t"), (["remove"], "t"), ("undo", 1))


def wrong_edits():
    """Edits of a right form that can't be done on the sample, with their errors."""
    wrong = [(("add", "t", PART), NameInUse, "t"), (("add", "t", None), NameInUse, "t"),
             (("add", "n", Part(PinKind("tap", "m", "n"), 1, "a", "b")), InvalidKind, PinKind("tap", "m", "n")),
             (("remove", "n"), UnknownName, "n"), (("move", "n", "m", "Z"), UnknownName, "n"),
             (("move", "t", "n", "Z"), UnknownName, "n"), (("move", "t", None, "z"), UnknownName, None),
             (("move", "t", ["m"], "z"), UnknownName, ["m"]), (("value", "n", 0), UnknownName, "n"),
             (("drop", "r"), UnknownName, "r"), (("drop", "a"), UnknownName, "a")]
    wrong += [(("add", name, None), InvalidName, name) for name in WRONG_NAMES]
    wrong += [(("add", "n", part), InvalidCircuit, part) for part in NO_PARTS]
    wrong += [(("remove", name), UnknownName, name) for name in ("", 3, *ODD)]
    wrong += [(("move", "t", "m", net), InvalidName, net) for net in WRONG_NAMES]
    wrong += [(("value", "t", value), NotPositive, value) for value in (0, -1, Ratio(0), Ratio(-1, 2), "1", *ODD)]
    wrong += [(("port", name, "Z"), InvalidName, name) for name in WRONG_WORDS]
    wrong += [(("port", "p", net), InvalidName, net) for net in WRONG_NAMES]
    wrong += [(("drop", name), UnknownName, name) for name in ("", 3, *ODD)]
    return wrong


def changed(circuit, edit):
    """A copy of a circuit with an edit done by hand."""
    circuit, (word, name, *rest) = circuit.copied(), edit
    if word == "add":
        circuit[name] = rest[0]
    elif word == "remove":
        circuit.take_out(name)
    elif word == "move":
        circuit[name][rest[0]] = rest[1]
    elif word == "value":
        circuit[name].set_value(rest[0])
    elif word == "port":
        circuit.set_port(name, rest[0])
    else:
        circuit.drop_port(name)
    return circuit


def random_edit(chance, circuit):
    """An edit that can be done."""
    names, nets = circuit.part_names(), [*"abcxyz"]
    word = chance.choice(("add", "add", "remove", "move", "move", "value", "port", "drop"))
    if word == "drop" and circuit.ports:
        return ("drop", chance.choice(list(circuit.ports)))
    if word == "port" or word == "drop":
        return ("port", chance.choice("pqr"), chance.choice(nets))
    if word == "add" or not names:
        kind = chance.choice((RES, RES, WIRE, TAP, TWO, AMP))
        name = next(f"n{at}" for at in range(99) if f"n{at}" not in names)
        return ("add", name, Part(kind, chance.choice((1, 2)), *[chance.choice(nets) for _ in kind.pins]))
    name = chance.choice(names)
    if word == "remove":
        return ("remove", name)
    if word == "move":
        return ("move", name, chance.choice(circuit[name].kind.pins), chance.choice(nets))
    return ("value", name, chance.choice((1, 2, Ratio(1, 2))))


class SessionTest(Case):
    def test_the_beginning(self):
        circuit = sample()
        session = Session(circuit)
        self.assertEqual([session.circuit() == circuit, session.circuit() is circuit, len(session)], [True, False, 0])
        self.assertEqual(session.form(), reduced(sample()))
        self.assertEqual(session.form().record, reduced(sample()).record)
        circuit.take_out("t")
        session.circuit().take_out("r1")
        session.circuit()["r2"].set_value(9)
        session.circuit().drop_port("p")
        self.assertEqual(told(session.circuit())[0], told(sample())[0])
        self.assertEqual(session.circuit(), sample())
        for wrong in (*NO_PARTS, session):
            self.fails(InvalidCircuit, wrong, Session, wrong)

    def test_each_edit(self):
        two = Part(TWO, 5, "a", "b")
        for edit in (("add", "n/a1", two), ("remove", "r1"), ("move", "r1", "b", "new/net"), ("value", "t", Ratio(7, 2)),
                     ("value", "t", 7), ("port", "p", "x"), ("port", "new", "z"), ("drop", "q")):
            session = Session(sample())
            session.do(edit)
            right = changed(sample(), edit)
            self.assertEqual([session.circuit(), len(session)], [right, 1])
            self.assertEqual(list(session.circuit().ports.items()), list(right.ports.items()))
            self.assertEqual(session.form().record, reduced(right).record)
            again = Session(sample())
            again.run([edit])
            self.assertEqual(state(again), state(session))
            session.undo()
            self.assertEqual(state(session), state(Session(sample())))
        session = Session(sample())
        session.do(("add", "n", two))
        two.set_value(99)
        two["m"] = "far"
        self.assertEqual(session.circuit()["n"], Part(TWO, 5, "a", "b"))

    def test_no_edits(self):
        session = Session(sample())
        before = state(session)
        for wrong in NO_EDITS:
            self.fails(InvalidEdit, wrong, session.do, wrong)
            self.fails(InvalidEdit, 0, session.run, [wrong])
            self.fails(InvalidEdit, 2, session.run, (("remove", "t"), ("remove", "none"), wrong, ("add",)))
            self.assertEqual(state(session), before)

    def test_wrong_edits(self):
        session = Session(sample())
        before = state(session)
        for edit, error, given in wrong_edits():
            self.fails(error, given, session.do, edit)
            self.assertEqual(state(session), before)
            for at, edits in ((0, [edit]), (2, (("port", "z", "a"), ("value", "t", 5), edit, ("remove", "none")))):
                with self.assertRaises(RunFailed) as caught:
                    session.run(edits)
                self.assertEqual(caught.exception.given, at)
                self.assertIsInstance(caught.exception.__cause__, error)
                kept = caught.exception.__cause__.given
                self.assertTrue(kept is given or (type(kept) is type(given) and kept == given))
                self.assertEqual(state(session), before)

    def test_runs(self):
        session = Session(sample())
        edits = [("remove", "t"), ("add", "t", Part(AMP, 1, "a", "b", "c")), ("move", "t", "o", "b"), ("port", "s", "b"),
                 ("drop", "p"), ("value", "r1", 4)]
        session.run(edits)
        right = sample()
        for edit in edits:
            right = changed(right, edit)
        self.assertEqual([session.circuit(), len(session), session.form().record], [right, 1, reduced(right).record])
        edits.clear()
        session.run([])
        session.run(())
        self.assertEqual([session.circuit(), len(session)], [right, 3])
        session.undo(number=2)
        self.assertEqual([session.circuit(), len(session)], [right, 1])
        session.undo()
        self.assertEqual(state(session), state(Session(sample())))
        before = state(session)
        for wrong in (None, True, 3, "remove", {}, {"remove": "t"}, iter([])):
            self.fails(InvalidEdit, None, session.run, wrong)
            self.assertEqual(state(session), before)
        # What is right alone can be wrong behind another edit, and the other way round.
        self.fails(RunFailed, 1, session.run, [("remove", "t"), ("value", "t", 2)])
        session.run([("add", "n", PART), ("remove", "n")])
        self.assertEqual(session.circuit(), sample())

    def test_undo(self):
        session = Session(sample())
        states = [state(session)]
        for edit in (("value", "t", 5), ("drop", "p"), ("port", "p", "a"), ("remove", "w"), ("move", "r1", "a", "b")):
            session.do(edit)
            states.append(state(session))
        for wrong in (0, -1, 6, 99, True, False, None, "1", 1.0, [1]):
            self.fails(NothingToUndo, wrong, lambda: session.undo(number=wrong))
            self.assertEqual(state(session), states[5])
        with self.assertRaises(TypeError):
            session.undo(2)
        session.undo()
        self.assertEqual(state(session), states[4])
        session.undo(number=3)
        self.assertEqual(state(session), states[1])
        self.fails(NothingToUndo, 2, lambda: session.undo(number=2))
        session.undo(number=1)
        self.assertEqual(state(session), states[0])
        self.fails(NothingToUndo, 1, session.undo)

    def test_order_of_ports(self):
        session = Session(sample())
        session.run([("drop", "p"), ("port", "p", "a")])
        self.assertEqual(list(session.circuit().ports), ["q", "p"])
        session.undo()
        self.assertEqual(list(session.circuit().ports), ["p", "q"])


class NumberTest(Case):
    def test_numbers(self):
        session = Session(sample())
        told_numbers = numbers(session)
        self.assertEqual(len(set(told_numbers.values())), 2)
        self.assertTrue(all(isinstance(number, int) for number in told_numbers.values()))
        self.assertEqual([session.number_of("r1"), session.number_of("r2")], [told_numbers[("r1", "r2")]] * 2)
        for wrong in ("w", "none", "x", 3, *ODD):
            self.fails(UnknownName, wrong, session.number_of, wrong)

    def test_what_stays_and_what_is_new(self):
        session = Session(sample())
        first = numbers(session)
        session.do(("value", "r1", 4))
        second = numbers(session)
        self.assertEqual(second[("t",)], first[("t",)])
        self.assertNotIn(second[("r1", "r2")], first.values())
        # Taken out and put in again as it was: a new number; in one run it is there ahead and behind.
        session.do(("remove", "t"))
        session.do(("add", "t", Part(TAP, 1, "a")))
        third = numbers(session)
        self.assertNotIn(third[("t",)], [*first.values(), *second.values()])
        session.run([("remove", "t"), ("add", "t", Part(TAP, 1, "a")), ("value", "r1", 9), ("value", "r1", 4)])
        self.assertEqual(numbers(session), third)
        # An equal item of other names, and other items of equal names.
        session.run([("remove", "t"), ("add", "s", Part(TAP, 1, "a"))])
        self.assertNotIn(numbers(session)[("s",)], third.values())
        # Names that are dropped play no part.
        session.do(("remove", "w"))
        self.assertEqual(numbers(session)[("r1", "r2")], third[("r1", "r2")])

    def test_equal_items_written_otherwise(self):
        session = Session(Circuit({}, {"a": Part(TWO, 1, "x", "y"), "w": Part(WIRE, 1, "x", "y")}))
        before = numbers(session)
        session.run([("move", "a", "m", "y"), ("move", "a", "n", "x"), ("move", "w", "a", "y"), ("move", "w", "b", "x")])
        self.assertEqual(numbers(session), before)

    def test_undone_numbers(self):
        session = Session(sample())
        first = numbers(session)
        session.do(("value", "t", 2))
        second = numbers(session)
        session.undo()
        self.assertEqual(numbers(session), first)
        session.do(("value", "t", 2))
        third = numbers(session)
        self.assertNotIn(third[("t",)], [*first.values(), *second.values()])
        session.do(("value", "t", 1))
        self.assertNotIn(numbers(session)[("t",)], [*first.values(), *second.values(), *third.values()])
        # An edit that fails, and one in a run that fails, uses up no item.
        with self.assertRaises(RunFailed):
            session.run([("value", "t", 3), ("remove", "none")])
        session.undo(number=2)
        self.assertEqual(numbers(session), first)

    def test_a_walk_through_sessions(self):
        """Sessions against their circuit reduced anew, and their numbers against all items that they have had."""
        chance = Random(1)
        for _ in range(12):
            session, right = Session(sample()), sample()
            history = [(state(session), right, {item.names: item.key for item in session.form()})]
            used = set(numbers(session).values())
            for _ in range(40):
                if len(history) > 1 and chance.random() < 0.25:
                    many = chance.randint(1, min(3, len(history) - 1))
                    session.undo(number=many)
                    del history[-many:]
                    right = history[-1][1]
                    self.assertEqual(state(session), history[-1][0])
                    continue
                edits = []
                for _ in range(chance.choice((1, 1, 1, 2, 3))):
                    edits.append(random_edit(chance, right))
                    right = changed(right, edits[-1])
                if len(edits) == 1:
                    session.do(edits[0])
                else:
                    session.run(edits)
                self.assertEqual([session.circuit(), session.form().record], [right, reduced(right).record])
                ahead = history[-1]
                for item in session.form():
                    number = session.number_of(item.id)
                    if ahead[2].get(item.names) == item.key:
                        self.assertEqual(number, ahead[0][3][item.names])
                    else:
                        self.assertNotIn(number, used)
                        used.add(number)
                self.assertEqual(len(set(numbers(session).values())), len(session.form()))
                history.append((state(session), right, {item.names: item.key for item in session.form()}))
                self.assertEqual(len(session), len(history) - 1)

    def test_great_sessions(self):
        rungs = {}
        for at in range(30):
            rungs[f"r{at}"] = Part(RES, 1, f"n{at}", f"n{at + 1}")
            rungs[f"s{at}"] = Part(RES, 1, f"n{at + 1}", "g")
        session = Session(Circuit({"p": "n0", "q": "g"}, rungs))
        for at in range(30):
            session.do(("value", f"r{at}", at + 2))
        self.assertEqual([len(session.form()), len(session)], [1, 30])
        self.assertEqual(session.form().record, reduced(session.circuit()).record)
        session.undo(number=30)
        self.assertEqual(session.circuit(), Circuit({"p": "n0", "q": "g"}, rungs))
