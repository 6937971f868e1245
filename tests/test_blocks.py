"""Points 28 and 29 and the interface section blocks."""

from random import Random

from wishedwires.blocks import BlockKind, Book
from wishedwires.circuits import Circuit
from wishedwires.errors import (InvalidBlock, InvalidCircuit, InvalidKind, InvalidName, InvalidNumber, InvalidPins,
                                LimitExceeded, NameInUse, UnknownName)
from wishedwires.kinds import Kind, PathKind, PinKind
from wishedwires.classes import ClassKind
from wishedwires.parts import Part
from wishedwires.ratios import Ratio
from wishedwires.reading import format_circuit
from wishedwires.reducing import reduced
from tests.helper import (AMP, NO_PARTS, ODD, RES, TAP, TWO, WORDS, WRONG_NAMES, WRONG_WORDS, Case, block, book_of,
                          chain, names_by_hand, random_book, small)

ONE = ("p:x", "t tap 1 x")


class BlockKindTest(Case):
    def test_making(self):
        kind = BlockKind("amp", "p", "q", "o")
        self.assertIsInstance(kind, Kind)
        self.assertEqual([kind.name, kind.pins, kind.controls, kind.is_path, kind.orders, kind.text, kind.DIRECTED],
                         ["amp", ("p", "q", "o"), (), False, ((0, 1, 2),), "block amp p q o", False])
        self.assertEqual(list(kind.exchanges()), [(0, 1, 2)])
        for many in range(1, 6):
            self.assertEqual(BlockKind("b", *"vwxyz"[:many]).pins, tuple("vwxyz"[:many]))

    def test_wrong(self):
        for wrong in WRONG_WORDS:
            self.fails(InvalidName, wrong, BlockKind, wrong)
            self.fails(InvalidKind, ("p", wrong), BlockKind, "b", "p", wrong)
        for wrong in ((), tuple("uvwxyz"), ("p", "p")):
            self.fails(InvalidKind, wrong, BlockKind, "b", *wrong)

    def test_equal(self):
        kind = BlockKind("amp", "p", "q", "o")
        self.assertTrue(kind == BlockKind("amp", "p", "q", "o"))
        for other in (BlockKind("amp", "q", "p", "o"), BlockKind("am", "p", "q", "o"), PinKind("amp", "p", "q", "o"), *ODD):
            self.assertFalse(kind == other)

    def test_parts_and_texts(self):
        part = Part(BlockKind("b", "p", "q"), 1, "x", "y")
        self.assertEqual([part["q"], list(part.seats())], ["y", [("p", "x"), ("q", "y")]])
        circuit = Circuit({"p": "x"}, {"u": part})
        self.fails(InvalidCircuit, circuit, format_circuit, circuit)
        self.assertEqual([item.slots for item in reduced(circuit)], [("x", "y")])


class PutTest(Case):
    def setUp(self):
        self.book = small()

    def refused(self, error, given, name, circuit):
        """The book refuses a block, and is as before; so does a book that is made with it."""
        twin = self.book.copied()
        self.fails(error, given, self.book.__setitem__, name, circuit)
        self.assertEqual(self.book, twin)
        self.assertEqual(self.book.size_of("top"), twin.size_of("top"))
        if name not in twin and (name is None or isinstance(name, (str, int))):
            blocks = {other: self.book[other] for other in ("half", "pair", "top")}
            self.fails(error, given, Book, {**blocks, name: circuit})

    def test_class_values(self):
        self.assertEqual([Book.DEPTH, Book.PORTS], [60, 5])
        self.assertEqual([len(Book()), Book().block_names(), Book() == Book(None), Book({}) == Book()], [0, [], True, True])

    def test_asking(self):
        book = self.book
        self.assertEqual([len(book), book.block_names(), "pair" in book], [3, ["half", "pair", "top"], True])
        self.assertEqual(book["half"], Circuit({"p": "a", "q": "b"}, {"r": Part(TWO, 3, "a", "b")}))
        with self.assertRaises(TypeError):
            iter(book)
        for wrong in ("", "u", "r", "halfs", 3, *ODD):
            self.assertFalse(wrong in book)
            for call in (book.__getitem__, book.kind_of, book.use, book.uses, book.depth_of, book.size_of, book.spread_of,
                         book.form_of):
                self.fails(UnknownName, wrong, call, wrong)
            for call in (book.total_of, book.name_at, book.number_of, book.part_of):
                self.fails(UnknownName, wrong, call, wrong, wrong)
            self.fails(UnknownName, wrong, lambda: list(book.walk(wrong, -1, -1)))

    def test_names(self):
        for wrong in WRONG_WORDS:
            self.refused(InvalidName, wrong, wrong, "no circuit")
        for name in WORDS:
            self.book[name] = block(*ONE)
            self.assertIn(name, self.book)

    def test_no_circuits(self):
        for wrong in NO_PARTS:
            self.refused(InvalidBlock, "new", "new", wrong)
            self.refused(InvalidBlock, "half", "half", wrong)

    def test_ports(self):
        for many in range(1, 6):
            ports = " ".join(f"p{at}:n{at}" for at in range(many))
            self.book[f"b{many}"] = block(ports)
            self.assertEqual(self.book.kind_of(f"b{many}").pins, tuple(f"p{at}" for at in range(many)))
        for ports in ("", " ".join(f"p{at}:n{at}" for at in range(6)), "p:a q:a", "p:a q:b r:a"):
            self.refused(InvalidBlock, "new", "new", block(ports))

    def test_instances(self):
        good = block("p:a q:b", "u half - a b", "v half - a a", book=self.book)
        self.book["new"] = good
        for kind, value, nets in ((BlockKind("half", "p", "q"), 2, "ab"), (BlockKind("half", "q", "p"), 1, "ab"),
                                  (BlockKind("half", "p"), 1, "a"), (BlockKind("none", "p", "q"), 1, "ab"),
                                  (BlockKind("half", "p", "q", "r"), 1, "abc"), (BlockKind("other", "p", "q"), 1, "ab"),
                                  (ClassKind(0, 2, ((0, 1),)), 1, "ab"), (Kind("plain"), 1, "")):
            circuit = Circuit({"p": "a"}, {"u": Part(kind, value, *nets)})
            self.refused(InvalidBlock, "other", "other", circuit)

    def test_blocks_that_use_themselves(self):
        for name, used in (("half", "half"), ("half", "pair"), ("half", "top"), ("pair", "pair"), ("pair", "top")):
            nets = " ".join("abc"[:len(self.book.kind_of(used).pins)])
            self.refused(InvalidBlock, name, name, block("p:a q:b", f"u {used} - {nets}", book=self.book))

    def test_names_that_begin_with_an_instance(self):
        for part in ("u/r", "u/half", "u/a/b"):
            self.refused(InvalidBlock, "new", "new", block("p:a", "u half - a b", f"{part} tap 1 a", book=self.book))
            self.refused(InvalidBlock, "new", "new", block("p:a", "u half - a b", f"{part} half - a b", book=self.book))
        for net in ("u/a", "u/x/y"):
            self.refused(InvalidBlock, "new", "new", block("p:a", f"u half - a {net}", book=self.book))
            self.refused(InvalidBlock, "new", "new", block(f"p:{net}", "u half - a b", book=self.book))
            self.refused(InvalidBlock, "new", "new", block("p:a", "u half - a b", f"t tap 1 {net}", book=self.book))
        self.refused(InvalidBlock, "new", "new", block("p:a", "u/v half - a b", "u/v/t tap 1 a", book=self.book))
        # A part that is no instance, and a name that only begins with the same letters, are no matter.
        self.book["new"] = block("p:a", "u half - a b", "uu/t tap 1 u1/b", "t tap 1 a", "t/t tap 1 t/t", "v/u tap 1 a",
                                 book=self.book)
        self.assertEqual(list(self.book.walk("new")), ["t", "t/t", "u/r", "uu/t", "v/u"])

    def test_kinds(self):
        unlike = Circuit({"p": "a"}, {"t": Part(PinKind("two", "m", "n"), 1, "a", "b")})
        self.refused(InvalidBlock, "new", "new", unlike)
        self.refused(InvalidBlock, "new", "new", Circuit({"p": "a"}, {"t": Part(PathKind("two"), 1, "a", "b")}))
        # A kind with the name of a block, and a block with the name of a kind.
        named = Circuit({"p": "a"}, {"t": Part(PinKind("pair", "m", "n"), 1, "a", "b")})
        self.refused(InvalidBlock, "new", "new", named)
        self.refused(InvalidBlock, "two", "two", block("p:a"))
        self.refused(InvalidBlock, "res", "res", block("p:a", "t tap 1 a"))
        self.refused(InvalidBlock, "new", "new", Circuit({"p": "a"}, {"t": Part(PinKind("new", "m"), 1, "a")}))
        self.refused(InvalidBlock, "new", "new", Circuit({"p": "a"}, {"t": Part(BlockKind("new", "p"), 1, "a")}))
        # The kinds of a block that is replaced are gone with it.
        alone = Book({"b": block(*ONE)})
        alone["b"] = Circuit({"p": "a"}, {"t": Part(PinKind("tap", "m", "n"), 1, "a", "a")})
        alone["b"] = Circuit({"p": "a"}, {"t": Part(AMP, 1, "a", "a", "a")})
        alone["tap"] = block("p:a")
        self.assertEqual(alone.block_names(), ["b", "tap"])

    def test_replaced(self):
        uses = self.book.copied()
        before = self.book["pair"]
        self.book["half"] = block("p:a q:b", "r two 3 a b", "s two 4 a x")
        self.assertEqual([self.book.size_of("half"), self.book.size_of("pair"), self.book.size_of("top")], [2, 4, 10])
        self.assertEqual([str(self.book.total_of("top", "two")), str(uses.total_of("top", "two"))], ["35", "19"])
        self.assertEqual([self.book["pair"] == before, self.book == uses, uses.size_of("top")], [True, False, 6])
        self.assertEqual(len(self.book.form_of("half")), 2)
        for ports in ("p:a", "q:b p:a", "p:a q:b r:c", "p:a s:b"):
            self.refused(InvalidBlock, "half", "half", block(ports))
            self.refused(InvalidBlock, "top", "top", block(ports))
        self.book["top"] = block("p:a q:b s:c")
        self.assertEqual([self.book.size_of("top"), self.book.uses("top")], [0, []])

    def test_copies(self):
        circuit = block(*ONE)
        self.book["new"] = circuit
        circuit["more"] = Part(TAP, 1, "x")
        circuit["t"]["m"] = "y"
        circuit.drop_port("p")
        self.assertEqual(self.book["new"], block(*ONE))
        told = self.book["new"]
        told["t"].set_value(9)
        told.set_port("q", "x")
        self.assertEqual([self.book["new"], self.book.kind_of("new").pins], [block(*ONE), ("p",)])
        blocks = {"b": block(*ONE)}
        book = Book(blocks)
        blocks["b"].take_out("t")
        blocks["c"] = block(*ONE)
        self.assertEqual([book["b"], len(book)], [block(*ONE), 1])
        twin = book.copied()
        twin["b"] = block("p:x")
        twin["c"] = block("p:x")
        self.assertEqual([book["b"], len(book)], [block(*ONE), 1])

    def test_order_of_a_dict(self):
        half, pair = self.book["half"], self.book["pair"]
        self.assertEqual(Book({"half": half, "pair": pair}).block_names(), ["half", "pair"])
        self.fails(InvalidBlock, "pair", Book, {"pair": pair, "half": half})

    def test_depth_60_and_61(self):
        book = chain(60)
        self.assertEqual([book.depth_of(f"b{at}") for at in (0, 1, 59, 60)], [0, 1, 59, 60])
        circuit = block("p:x q:y", "u b60 - x y", book=book)
        self.fails(LimitExceeded, 61, book.__setitem__, "more", circuit)
        self.assertEqual(len(book), 61)
        # A block in the midst that is replaced makes those above it deeper.
        low = chain(58)
        low["c"] = block("p:x q:y", "u b0 - x y", book=low)
        low["d"] = block("p:x q:y", "u c - x y", book=low)
        low["b1"] = block("p:x q:y", "u d - x y", book=low)
        self.assertEqual(low.depth_of("b58"), 60)
        low["e"] = block("p:x q:y", "u b0 - x y", book=low)
        low["c"] = block("p:x q:y", "u b0 - x y", book=low)
        self.fails(LimitExceeded, 61, low.__setitem__, "c", block("p:x q:y", "u e - x y", book=low))
        self.assertEqual([low.depth_of("c"), low.depth_of("b58")], [1, 60])
        self.fails(InvalidBlock, "c", low.__setitem__, "c", block("p:x q:y", "u b58 - x y", book=low))


class JoinTest(Case):
    def test_joined(self):
        one, other = small(), book_of(tap=("p:x", "t amp 1 x x x"), taps=("p:x", "t amp 1 x x x", "u two 5 x x"))
        both = one + other
        self.assertEqual(both.block_names(), ["half", "pair", "tap", "taps", "top"])
        self.assertEqual([len(one), len(other), both["top"] == one["top"], both["taps"] == other["taps"]], [3, 2, True, True])
        again = one
        again += other
        self.assertIs(again, one)
        self.assertEqual(again, both)
        self.assertEqual(again.name_at("top", 0), "b")
        self.assertEqual([Book() + other == other, other + Book() == other], [True, True])
        one["half"] = block("p:a q:b")
        self.assertEqual([one.size_of("pair"), both.size_of("pair"), len(other)], [0, 2, 2])

    def refused(self, error, given, one, other):
        twin, there = one.copied(), other.copied() if isinstance(other, Book) else other

        def add():
            told = one
            told += other
        self.fails(error, given, lambda: one + other)
        self.fails(error, given, add)
        self.assertEqual(one, twin)
        if isinstance(other, Book):
            self.assertEqual(other, there)

    def test_wrong(self):
        for wrong in (*NO_PARTS, Circuit()):
            self.refused(InvalidBlock, wrong, small(), wrong)
        self.refused(NameInUse, "half", small(), small())
        self.refused(NameInUse, "pair", small(), book_of(zz=ONE, pair=ONE, top=ONE))
        book = small()
        self.refused(NameInUse, "half", book, book)

    def test_kinds_that_do_not_go(self):
        unlike = Part(PinKind("two", "m", "n"), 1, "x", "y")
        other = Book({"z": block(*ONE), "c": Circuit({"p": "x"}, {"t": unlike}), "b": Circuit({"p": "x"}, {"t": unlike})})
        self.refused(InvalidBlock, "b", small(), other)
        # First by depth, then by name.
        deep = Book({"z": Circuit({"p": "x"}, {"t": unlike})})
        deep["a"] = Circuit({"p": "x"}, {"u": deep.use("z", "x"), "t": unlike})
        self.refused(InvalidBlock, "z", small(), deep)
        self.refused(InvalidBlock, "two", small(), book_of(two=ONE))
        self.refused(InvalidBlock, "b", small(), Book({"b": Circuit({"p": "x"}, {"t": Part(PinKind("half", "m"), 1, "x")})}))
        # A name in use comes first.
        self.refused(NameInUse, "top", small(), Book({"a": Circuit({"p": "x"}, {"t": unlike}), "top": block(*ONE)}))

    def test_equal(self):
        book = small()
        other = Book({name: book[name] for name in ("half", "pair", "top")})
        self.assertTrue(book == other and not book != other)
        other["half"] = block("p:a q:b", "r two 4 a b")
        self.assertFalse(book == other)
        self.assertFalse(book == book_of(half=("p:a q:b", "r two 3 a b")))
        for wrong in (*ODD, 3, Circuit(), {}):
            self.assertFalse(book == wrong)
        turned = Book({"half": Circuit({"q": "b", "p": "a"}, {"r": Part(TWO, 3, "a", "b")})})
        self.assertTrue(turned == book_of(half=("p:a q:b", "r two 3 a b")))


class MeasureTest(Case):
    def test_the_example(self):
        two = PinKind("two", "m", "n", swaps=(("m", "n"),))
        half = Circuit({"p": "a", "q": "b"}, {"r": Part(two, 3, "a", "b")})
        book = Book({"half": half})
        pair = Circuit({"p": "a", "q": "b"}, {"u": book.use("half", "a", "x"), "v": book.use("half", "b", "x")})
        more = Book({"half": half, "pair": pair})
        self.assertEqual([more.size_of("pair"), more.spread_of("pair"), str(more.total_of("pair", "two")),
                          more.name_at("pair", 1)], [2, 4, "6", "v/r"])

    def test_use_and_kind(self):
        book = small()
        self.assertEqual([book.kind_of("top"), book.kind_of("half").text], [BlockKind("top", "p", "q", "s"), "block half p q"])
        self.assertEqual(book.use("pair", "x", "y"), Part(BlockKind("pair", "p", "q"), 1, "x", "y"))
        for wrong in ((), ("x",), ("x", "y", "z"), ("x", "Y"), ("x", None)):
            self.fails(InvalidPins, wrong, book.use, "pair", *wrong)
        for wrong in WRONG_NAMES:
            self.fails(InvalidPins, ("x", wrong), book.use, "pair", "x", wrong)

    def test_uses_and_depths(self):
        book = small()
        self.assertEqual([book.uses(name) for name in ("half", "pair", "top")], [[], ["half"], ["half", "pair"]])
        self.assertEqual([book.depth_of(name) for name in ("half", "pair", "top")], [0, 1, 2])
        self.assertEqual([book.size_of(name) for name in ("half", "pair", "top")], [1, 2, 6])
        self.assertEqual([book.spread_of(name) for name in ("half", "pair", "top")], [1, 4, 12])
        book.uses("top").append("x")
        self.assertEqual(book.uses("top"), ["half", "pair"])

    def test_forms(self):
        book = small()
        form = book.form_of("top")
        self.assertEqual(form, reduced(book["top"]))
        self.assertEqual([item.is_branch for item in form].count(False), 3)
        self.assertEqual(form.item_of("k").kind, book.kind_of("pair"))
        self.assertIsInstance(book.form_of("top").record, tuple)

    def test_totals(self):
        book = small()
        for name, kind, total in (("top", "two", "19"), ("top", "res", "2"), ("pair", "res", "0"), ("half", "two", "3"),
                                  ("top", "half", "0"), ("top", "pair", "0"), ("top", "none", "0")):
            told = book.total_of(name, kind)
            self.assertEqual([str(told), type(told)], [total, Ratio])
        book["half"] = Circuit({"p": "a", "q": "b"}, {"r": Part(TWO, Ratio(1, 3), "a", "b")})
        self.assertEqual(str(book.total_of("top", "two")), "25/3")

    def test_numbers(self):
        chance = Random(1)
        for book in [small(), *[random_book(chance) for _ in range(20)]]:
            for name in book.block_names():
                told = names_by_hand(book, name)
                self.assertEqual(book.size_of(name), len(told))
                self.assertEqual(list(book.walk(name, 0, 1000)), told)
                self.assertEqual([book.name_at(name, at) for at in range(len(told))], told)
                self.assertEqual([book.number_of(name, full) for full in told], list(range(len(told))))

    def test_order_of_names(self):
        book = small()
        self.assertEqual(list(book.walk("top")), ["b", "k/u/r", "k/v/r", "l", "m/u/r", "m/v/r"])
        self.assertEqual(book.part_of("top", "k/v/r"), Part(TWO, 3, "a", "b"))
        self.assertEqual(book.part_of("top", "b"), Part(RES, 2, "a", "b"))
        told = book.part_of("top", "k/v/r")
        told.set_nets("z", "z")
        self.assertEqual(book.part_of("top", "m/u/r"), Part(TWO, 3, "a", "b"))
        # Names of several words among them.
        book["wide"] = block("p:a", "a/b half - a b", "a tap 1 a", "a/c tap 1 a", "b/b/b tap 1 a", book=book)
        self.assertEqual(list(book.walk("wide")), ["a", "a/b/r", "a/c", "b/b/b"])
        self.assertEqual([book.number_of("wide", full) for full in ("a/b/r", "b/b/b")], [1, 3])

    def test_no_full_names(self):
        book = small()
        wrong = ("", "r", "k", "k/u", "k/u/", "/b", "b/", "k/r", "k//r", "k/u/r/r", "l/x", "top/b", "m/u/s", "k/u/r ", 3, *ODD)
        for full in wrong:
            self.fails(UnknownName, full, book.number_of, "top", full)
            self.fails(UnknownName, full, book.part_of, "top", full)

    def test_no_numbers(self):
        book = small()
        for wrong in (-1, 6, 7, 10 ** 59, True, False, None, "0", 1.0, [0]):
            self.fails(InvalidNumber, wrong, book.name_at, "top", wrong)
        self.fails(InvalidNumber, 0, Book({"b": block("p:x")}).name_at, "b", 0)

    def test_walks(self):
        book = small()
        told = names_by_hand(book, "top")
        self.assertEqual(list(book.walk("top", start=2, many=3)), told[2:5])
        self.assertEqual(list(book.walk("top", 4)), told[4:])
        self.assertEqual([list(book.walk("top", start, many)) for start, many in ((6, 10), (10 ** 59, 1000), (0, 0))], [[]] * 3)
        for wrong in (-1, True, None, "0", 1.5):
            self.fails(InvalidNumber, wrong, lambda: next(book.walk("top", wrong, None)))
        for wrong in (-1, 1001, True, None, "0", 1.5):
            self.fails(InvalidNumber, wrong, lambda: next(book.walk("top", 99, wrong)))
        self.assertEqual(len(list(chain(10).walk("b10"))), 10)

    def test_great_books(self):
        book = chain(60, nets=("x m", "m n", "n y"))
        parts = 3 ** 60
        self.assertEqual([book.size_of("b60"), book.spread_of("b60")], [2 * parts, 2 * parts + 3 * (parts - 1) // 2])
        self.assertEqual(str(book.total_of("b60", "amp")), str(2 * parts))
        for number in (0, 1, 2 * parts - 1, 12345678901234567890):
            full = book.name_at("b60", number)
            self.assertEqual([book.number_of("b60", full), full.count("/")], [number, 60])
        self.assertEqual(len(list(book.walk("b60", parts, 1000))), 1000)
        self.assertEqual(book.part_of("b60", book.name_at("b60", parts)).kind.name, "amp")
        self.assertEqual(len(book.form_of("b60")), 3)
        book["b0"] = block("p:x q:y", "r two 1 x y")
        self.assertEqual(book.size_of("b60"), parts)
