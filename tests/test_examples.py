"""The examples that the document gives, as they stand there."""

import doctest
import unittest
from pathlib import Path

README = Path(__file__).resolve().parent.parent / "README.md"

EXAMPLES = """
>>> from wishedwires.ratios import Ratio
>>> [str(1 - Ratio(1, 3)), Ratio(6, -4), Ratio(1, 2) < 1, str(Ratio(3).over(2))]
['2/3', Ratio(-3, 2), True, '3/2']

>>> from wishedwires.kinds import JoiningKind, PathKind, PinKind
>>> [PinKind("amp", "p", "q", "o", swaps=(("p", "q"),)).text, JoiningKind("res", row="sum", side="inverse").text, list(PathKind("sw", "g").exchanges())]
['pins amp p q o : p q', 'path res : row sum side inverse', [(0, 1, 2), (1, 0, 2)]]

>>> 1 - Ratio(1, 3)
Ratio(2, 3)
>>> [str(Ratio(3)), str(Ratio(-5, 2)), Ratio(3, 2), Ratio(3, 1)]
['3', '-5/2', Ratio(3, 2), Ratio(3, 1)]

>>> from wishedwires.rules import ValueRule
>>> ValueRule("inverse")(2, 3)
Ratio(6, 5)

>>> PinKind("amp", "p", "q", "o", swaps=(("p", "q"),)).text
'pins amp p q o : p q'
>>> JoiningKind("res", row="sum", side="inverse").text
'path res : row sum side inverse'

>>> from wishedwires.reading import parse
>>> from wishedwires.reducing import reduced
>>> lines = ["path res : row sum side inverse", "port p a", "port q b", "part r1 res 2 a x", "part r2 res 3 x b"]
>>> form = reduced(parse("\\n".join(lines + ["part r3 res 5 b a", "part r4 res 1 b y"])))
>>> [len(form), str(form.entries[0].worths[0]), form.entries[0].names, form.entries[0].ends, form.dropped]
[1, '5/2', ('r1', 'r2', 'r3'), ('a', 'b'), ('r4',)]

>>> from wishedwires.matching import Matching
>>> m = Matching({"a": "b", "b": "a"}, {"t": "t"})
>>> [m("a"), (m * m).is_identity, m.power(-7) == m, list(m)]
['b', True, True, [('a', 'b'), ('b', 'a')]]

>>> from wishedwires.entries import Item
>>> from wishedwires.exchanges import Exchanges
>>> from wishedwires.forms import Form
>>> from wishedwires.kinds import PinKind
>>> tap = PinKind("tap", "m")
>>> form = Form({}, [Item.single(tap, 1, ["x"], ["t1"]), Item.single(tap, 1, ["y"], ["t2"])])
>>> found = Exchanges(form)
>>> [found.many, list(found.chain()), found.net_classes(), found.id_classes()]
[2, [('x', ['x', 'y']), ('y', ['y'])], [['x', 'y']], [['t1', 't2']]]

>>> from wishedwires.colours import first_colours
>>> one, other = Form({}, [Item.single(tap, 1, ["x"], ["t"])]), Form({}, [Item.single(tap, 1, ["y"], ["t"])])
>>> first_colours(one, other)
({'x': 0}, {'y': 0})

>>> from wishedwires.refuting import lets_refutation, refutation
>>> one, other = Form({"p": "x"}, []), Form({"q": "x"}, [])
>>> [lets_refutation(one, other, ("ports", "p")), lets_refutation(one, other, ("ports", "x"))]
[True, False]
>>> one = Form({}, [Item.single(tap, 1, ["x"], ["t"])])
>>> other = Form({}, [Item.single(tap, 1, ["x"], ["t"]), Item.single(tap, 1, ["y"], ["u"])])
>>> refutation(one, other) == ("rounds", (({"x": 0}, {"x": 0, "y": 0}),), ("net", 0))
True

>>> from wishedwires.ways import ways
>>> item = Item.single(PinKind("two", "m", "n", swaps=(("m", "n"),)), 3, ["x", "y"], ["t"])
>>> ways(item, item)
[((0, 1), (0,)), ((1, 0), (0,))]

>>> from wishedwires.junctions import greatest_pairs, touching_set
>>> pairs = [("x", "z"), ("y", "z")]
>>> [len(greatest_pairs(pairs)), touching_set(pairs)]
[1, ((), ('z',))]

>>> from wishedwires.pricing import Pairing, Prices
>>> pairing = Pairing(Form({"p": "x", "q": "y"}, []), Form({"p": "z", "q": "z"}, []))
>>> [pairing.meetings, len(pairing.kept), str(pairing.price)]
[(('x', 'z'), ('y', 'z')), 1, '1']

>>> from wishedwires.least import floor_paper, least_differences, lets_floor
>>> wished, drawn = Form({"p": "x", "q": "y"}, []), Form({"p": "z", "q": "z"}, [])
>>> told = least_differences(wished, drawn)
>>> [told.meetings, told.wrong, str(told.price), lets_floor(wished, drawn, 1, ("bound", (), ("z",))), floor_paper(wished, drawn, 2)]
[(('x', 'z'), ('y', 'z')), 1, '1', True, None]

>>> from wishedwires.circuits import Circuit
>>> from wishedwires.mending import Board, laid
>>> from wishedwires.parts import Part
>>> form = reduced(Circuit({"p": "a"}, {"t": Part(PinKind("two", "m", "n"), 1, "a", "b")}))
>>> board = Board(form, form)
>>> board.do(("move", (("t", 0), ("port", "p")), "c"))
>>> [board.slots_of("t"), board.ports, reduced(laid(form)) == form]
[('c', 'b'), {'p': 'c'}, True]

>>> from wishedwires.blocks import Book
>>> two = PinKind("two", "m", "n", swaps=(("m", "n"),))
>>> half = Circuit({"p": "a", "q": "b"}, {"r": Part(two, 3, "a", "b")})
>>> book = Book({"half": half})
>>> pair = Circuit({"p": "a", "q": "b"}, {"u": book.use("half", "a", "x"), "v": book.use("half", "b", "x")})
>>> more = Book({"half": half, "pair": pair})
>>> [more.size_of("pair"), more.spread_of("pair"), str(more.total_of("pair", "two")), more.name_at("pair", 1)]
[2, 4, '6', 'v/r']

>>> from wishedwires.blockwise import block_exchanges, match_books
>>> [block_exchanges(more, "pair"), match_books(more, "pair", more, "pair")("v/r")]
[[(0, 1), (1, 0)], 'v/r']

>>> from wishedwires.flat import flat
>>> from wishedwires.opening import least_openings
>>> other = Book({"pair": flat(more, "pair")})
>>> [flat(more, "pair").part_names(), other["pair"]["v/r"].nets, least_openings(more, "pair", other, "pair")]
[['u/r', 'v/r'], ('b', 'x'), (('half',), ())]
"""


class ExamplesTest(unittest.TestCase):
    def test_examples(self):
        self.run_text(EXAMPLES)

    def test_readme(self):
        self.run_text(README.read_text().replace("```", ""))

    def run_text(self, text):
        test = doctest.DocTestParser().get_doctest(text, {}, "examples", None, 0)
        self.assertGreater(len(test.examples), 0)
        told = []
        failed = doctest.DocTestRunner(verbose=False).run(test, out=told.append).failed
        self.assertEqual(failed, 0, "".join(told))
