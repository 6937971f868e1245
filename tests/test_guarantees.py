"""Point 3, (a) to (g), and points 1 and 2 over the whole program, on circuits and books drawn by a fixed rule."""

import ast
from itertools import combinations, islice
from pathlib import Path
from random import Random

from wishedwires import errors
from wishedwires.blocks import Book
from wishedwires.blockwise import match_books
from wishedwires.circuits import Circuit
from wishedwires.classes import classing, lets_classing
from wishedwires.colours import rounds
from wishedwires.desk import Desk
from wishedwires.editing import Session
from wishedwires.exchanges import Exchanges
from wishedwires.expressions import Leaf
from wishedwires.flat import flat, flat_alike
from wishedwires.forms import Form
from wishedwires.junctions import touching_set
from wishedwires.least import floor_paper, least_differences, lets_floor, weight
from wishedwires.matching import Matching, alike, matchings
from wishedwires.mending import Board, mends
from wishedwires.opening import least_openings, lets_openings, openings
from wishedwires.parts import Part
from wishedwires.pricing import Pairing, Prices
from wishedwires.ratios import Ratio
from wishedwires.reading import format_circuit, parse
from wishedwires.reducing import Reduction, lets_trace, reduced
from wishedwires.refuting import lets_matching, lets_refutation, refutation
from wishedwires.rules import ValueRule
from wishedwires.within import apart_paper, lets_apart, most_apart, places, spots
from tests.helper import (AMP, ARROW, GATE, RES, TAP, TWO, WIRE, Case, book_of, disguised, names_by_hand, random_book,
                          small)

KINDS = (RES, RES, RES, WIRE, GATE, ARROW, TAP, TWO, AMP)


def drawn_circuits(seed, many, most=7, nets="uvwxyz", kinds=KINDS):
    """Circuits by a fixed rule."""
    chance = Random(seed)
    for _ in range(many):
        parts = {}
        for at in range(chance.randint(1, most)):
            kind = chance.choice(kinds)
            parts[f"t{at}"] = Part(kind, chance.choice((1, 1, 2)), *[chance.choice(nets) for _ in kind.pins])
        yield Circuit({name: chance.choice(nets) for name in "pq" if chance.random() < 0.7}, parts)


def pairs_of_forms(seed, many, **more):
    """Reduced forms with the same port names, among them alike ones."""
    chance = Random(seed)
    told = [reduced(circuit) for circuit in drawn_circuits(seed, many, **more)]
    for at, form in enumerate(told):
        for other in told[at:at + 12]:
            if sorted(form.ports) == sorted(other.ports):
                yield form, other
        nets = form.all_nets()
        places_of = dict(zip(nets, chance.sample(nets, len(nets))))
        ports = {name: places_of[net] for name, net in form.ports.items()}
        yield form, Form(ports, [item.mapped(places_of) for item in form])


class GuaranteesTest(Case):
    def test_a_one_form_whatever_the_order(self):
        chance = Random(1)
        for circuit in drawn_circuits(1, 60):
            right = reduced(circuit)
            for _ in range(6):
                reduction = Reduction(circuit)
                while reduction.steps():
                    reduction.do(chance.choice(reduction.steps()))
                self.assertEqual(reduction.form().record, right.record)
                self.assertLessEqual(len(reduction.trace), 2 * len(circuit))
                self.assertIs(lets_trace(circuit, list(reduction.trace), right), True)
            session = Session(Circuit())
            session.run([("port", name, net) for name, net in circuit.ports.items()])
            order = chance.sample(circuit.part_names(), len(circuit))
            for name in order:
                session.do(("add", name, circuit[name]))
            self.assertEqual(session.form().record, right.record)
            for name in order[:2]:
                session.run([("remove", name), ("add", name, circuit[name])])
            session.do(("port", "s", "u"))
            session.undo()
            self.assertEqual(session.form().record, right.record)

    def test_b_alike_exactly_if_there_is_a_matching(self):
        seen = []
        for one, other in pairs_of_forms(2, 60, most=5, nets="wxyz"):
            paper, found = refutation(one, other), list(islice(matchings(one, other), 200))
            seen.append(bool(found))
            self.assertEqual([alike(one, other), paper is None], [bool(found)] * 2)
            if not found:
                self.assertIs(lets_refutation(one, other, paper), True)
                continue
            exchanges = Exchanges(other)
            if exchanges.many < 200:
                self.assertEqual(len(found), exchanges.many)
                for told in found:
                    self.assertIs(lets_matching(one, other, told.net_map(), told.id_map()), True)
                    step = ~found[0] * told
                    self.assertIn(step, exchanges)
                    product = Matching.identity(other)
                    for index in exchanges.factors(step):
                        product = product * exchanges.generators[index]
                    self.assertEqual(product, step)
        self.assertGreater(min(seen.count(True), seen.count(False)), 40)

    def test_c_the_least_price(self):
        seen = []
        for one, other in pairs_of_forms(3, 60, most=4, nets="wxyz"):
            if weight(one, other) > 2000:
                continue
            told = least_differences(one, other, Prices(junction=2))
            seen.append(told.price == 0)
            self.assertEqual(told.price == 0, alike(one, other))
            if told.price == 0:
                self.assertIs(lets_matching(one, other, told.matching().net_map(), told.matching().id_map()), True)
            paper = floor_paper(one, other, told.price, told.prices)
            self.assertIs(lets_floor(one, other, told.price, paper, told.prices), True)
            self.assertEqual(told.wrong, self.least_to_go(told.meetings))
        self.assertGreater(min(seen.count(True), seen.count(False)), 20)

    def least_to_go(self, meetings):
        """The least number of meetings that must go so that no net meets two: a plain trial."""
        for many in range(len(meetings) + 1):
            for gone in combinations(meetings, many):
                left = [pair for pair in meetings if pair not in gone]
                if all(len({pair[side] for pair in left}) == len(left) for side in (0, 1)):
                    return many
        return None

    def test_d_mends(self):
        many = 0
        for one, other in pairs_of_forms(4, 60, most=5):
            if weight(one, other) > 2000:
                continue
            for pairing in (least_differences(one, other), Pairing(one, other)):
                deeds = mends(pairing)
                board = Board(one, other)
                board.play(deeds)
                self.assertTrue(alike(board.form(), one))
                self.assertEqual([deed[0] for deed in deeds].count("move"), pairing.wrong)
                many += 1
        self.assertGreater(many, 100)

    def test_e_books(self):
        chance, seen = Random(5), []
        for _ in range(30):
            one = random_book(chance, most=2)
            other = disguised(chance, one, same_ports=True, spoil=0.15)
            for name in one.block_names():
                there = f"z{name}"
                match = match_books(one, name, other, there)
                if match is not None:
                    self.assertIs(flat_alike(one, name, other, there), True)
                    self.assertEqual(len(match.paper[-1][0]), 2)
                full = names_by_hand(one, name)
                self.assertEqual([one.name_at(name, at) for at in range(one.size_of(name))], full)
                total = sum(flat(one, name)[part].value.top for part in full if one.part_of(name, part).kind.name == "two")
                self.assertEqual(one.total_of(name, "two"), total)
                if one.spread_of(name) <= 12:
                    least = least_openings(one, name, other, there)
                    self.assertEqual(least is not None, flat_alike(one, name, other, there))
                    self.assertEqual(least == ((), ()), match is not None)
                    seen.append(match is not None)
        self.assertGreater(min(seen.count(True), seen.count(False)), 10)

    def test_f_places(self):
        many = 0
        circuits = list(drawn_circuits(6, 40, most=9, kinds=(TWO, TAP)))
        for pattern, circuit in zip(drawn_circuits(7, 40, most=2, nets="xyz", kinds=(TWO, TAP)), circuits):
            pattern.set_port("p", "x")
            pattern.set_port("q", "y")
            told = list(places(pattern, circuit))
            self.assertEqual(spots(pattern, circuit), sorted({tuple(sorted(place.id_map().values())) for place in told}))
            some = spots(pattern, circuit)[:12]
            chosen = most_apart(some)
            self.assertEqual(len({part for spot in chosen for part in spot}), sum(map(len, chosen)))
            self.assertIs(lets_apart(some, len(chosen), apart_paper(some, len(chosen))), True)
            self.assertIsNone(apart_paper(some, len(chosen) - 1))
            many += len(told)
        self.assertGreater(many, 10)

    def test_g_no_checker_accepts_what_is_untrue(self):
        """Papers for one thing are held against many others: what is accepted is true there, too."""
        pairs = list(islice(pairs_of_forms(8, 40, most=4, nets="xyz"), 60))
        pairs = [pair for pair in pairs if weight(*pair) <= 500]
        refutations = [paper for paper in (refutation(*pair) for pair in pairs) if paper is not None]
        prices = [least_differences(*pair).price for pair in pairs]
        floors = [floor_paper(*pair, price) for pair, price in zip(pairs, prices)]
        accepted = 0
        for pair, price in zip(pairs, prices):
            for paper in refutations:
                if lets_refutation(*pair, paper):
                    accepted += 1
                    self.assertFalse(alike(*pair))
            for asked in sorted({str(told) for told in prices}):
                for paper in floors:
                    if lets_floor(*pair, Ratio.parse(asked), paper):
                        accepted += 1
                        self.assertLessEqual(Ratio.parse(asked), price)
        self.assertGreater(accepted, 50)

    def test_g_traces(self):
        circuits = list(drawn_circuits(9, 25))
        traces = []
        for circuit in circuits:
            reduction = Reduction(circuit)
            reduction.finish()
            traces.append(list(reduction.trace))
        forms = [reduced(circuit) for circuit in circuits]
        for circuit, form in zip(circuits, forms):
            for trace in traces:
                for other in forms:
                    if lets_trace(circuit, trace, other):
                        self.assertEqual(other.record, form.record)

    def test_g_books_and_spots(self):
        chance = Random(10)
        books = [random_book(chance, depths=(0, 1), most=2) for _ in range(5)] + [book_of(a=("p:x", "t tap 1 x"))]
        papers = [classing(one, other) for one in books for other in books]
        for at, one in enumerate(books):
            for there, other in enumerate(books):
                for number, paper in enumerate(papers):
                    if lets_classing(one, other, paper):
                        self.assertEqual(len({name for row in paper for side, name, _, _ in row[0] if side == 0}), len(one))
                        if number != at * len(books) + there:
                            self.assertEqual([len(row[0]) for row in paper],
                                             [len(row[0]) for row in papers[at * len(books) + there]])
        pairs = [(one, "a", other, "a") for one in books for other in books]
        told = [openings(*pair) for pair in pairs]
        for pair in pairs:
            for paper in told:
                if lets_openings(*pair, paper):
                    self.assertEqual(len(paper[-1][0][0] + paper[-1][0][1]), len(sum(openings(*pair)[-1][0], ())))
        some = [[("a", "b"), ("c",)], [("a",), ("b",)], [("a", "b"), ("b", "c")], []]
        for spots_there in some:
            for many in range(-1, 3):
                for paper in (apart_paper(other, limit) for other in some for limit in range(3)):
                    if lets_apart(spots_there, many, paper):
                        self.assertLessEqual(len(most_apart(spots_there)), many)


class RulesTest(Case):
    """Point 2 over the whole program."""

    def test_errors(self):
        bases = {"WireError": ValueError, "UnknownName": KeyError, "NameInUse": KeyError, "LimitExceeded": OverflowError,
                 "NothingToUndo": LookupError, "NoDivision": ZeroDivisionError, "RunFailed": RuntimeError}
        names = [name for name in vars(errors) if isinstance(getattr(errors, name), type)]
        self.assertEqual(len(names), 25)
        for name in names:
            kind = getattr(errors, name)
            self.assertEqual(kind.__bases__, (bases.get(name, errors.WireError),))
            if name != "WireError":
                given = [name]
                self.assertIs(kind(given).given, given)

    def test_no_object_is_equal_to_another_kind(self):
        book = small()
        form = book.form_of("top")
        pairing = Pairing(form, form)
        told = [book, book["top"], book["half"]["r"], form, form.entries[0], form.entries[0].expression or Leaf(WIRE, 1),
                book.kind_of("half"), Ratio(7, 3), ValueRule("sum"), Matching.identity(form), Prices(), pairing, Desk(),
                Session(Circuit()), Board(form, form), Exchanges(form), Reduction(book["half"]),
                match_books(book, "top", book, "top")]
        for one in told:
            for other in [*told, None, True, 3, 7, "x", (), [], {}, 1.5, b"", object()]:
                if other is not one:
                    self.assertIs(one == other, False, (one, other))
                    self.assertIs(one != other, True, (one, other))

    def test_nothing_that_was_told_changes_what_is_kept(self):
        book = small()
        twin = book.copied()
        blocks = {name: book[name] for name in ("half", "pair", "top")}
        other = Book(blocks)
        for told in blocks.values():
            told.drop_port("p")
        for name in book.block_names():
            book[name].drop_port("p")
            book.form_of(name).all_nets().clear()
            book.form_of(name).ports.clear()
            book.uses(name).clear()
        book.block_names().clear()
        flat(book, "top").take_out("b")
        self.assertEqual([book, other], [twin, twin])
        paper = classing(book, book)
        for row in paper:
            for _, _, told in row[1]:
                for mine, theirs in told[1] if told else ():
                    mine.clear()
                    theirs.clear()
        self.assertIs(lets_classing(book, book, classing(book, book)), True)

    def test_generators_and_what_they_are_told_from(self):
        form = small().form_of("top")
        running = rounds(form, form)
        first = next(running)
        first[0].clear()
        self.assertEqual(list(rounds(form, form))[1:], list(running))
        lines = format_circuit(small()["half"])
        self.assertEqual(parse(lines), small()["half"])

    def test_the_interface_stands_in_its_files(self):
        folder = Path(__file__).resolve().parent.parent / "wishedwires"
        modules = """errors ratios rules kinds parts circuits reading expressions entries forms reducing colours matching
        exchanges refuting ways junctions pricing least mending blocks classes blockwise flat opening editing within
        desk""".split()
        for name in modules:
            self.assertTrue((folder / f"{name}.py").exists(), name)
        tree = ast.parse((folder / "__init__.py").read_text())
        self.assertEqual([node for node in tree.body if not isinstance(node, ast.Expr)], [])

    def test_touching_sets_have_as_many_names_as_kept_meetings(self):
        for one, other in pairs_of_forms(11, 25):
            pairing = Pairing(one, other)
            firsts, seconds = touching_set(list(pairing.meetings))
            self.assertEqual(len(firsts) + len(seconds), len(pairing.kept))
