"""Points 3 (e), 32 and 33 and the interface section flat."""

from random import Random

from wishedwires.blocks import BlockKind, Book
from wishedwires.circuits import Circuit
from wishedwires.errors import LimitExceeded, UnknownName
from wishedwires.flat import flat, flat_alike, opened
from wishedwires.matching import alike
from wishedwires.parts import Part
from wishedwires.reducing import reduced
from tests.helper import (ODD, TAP, TWO, Case, alike_under, block, book_of, chain, disguised, names_by_hand,
                          random_book, small)


def opened_once(circuit, name, inner):
    """A circuit with one instance opened, by the words of point 32."""
    instance = circuit[name]
    at = dict(zip(instance.kind.pins, instance.nets))
    ports = {net: at[port] for port, net in inner.ports.items()}
    parts = {other: part for other, part in circuit.parts() if other != name}
    for other, part in inner.parts():
        parts[f"{name}/{other}"] = Part(part.kind, part.value, *[ports.get(net, f"{name}/{net}") for net in part.nets])
    return Circuit(circuit.ports, parts)


def opened_by_hand(book, name, names):
    """A block's circuit with all instances of some blocks opened, one after the other, the outer ones first."""
    circuit = book[name]
    while True:
        found = [part for part, told in circuit.parts() if isinstance(told.kind, BlockKind) and told.kind.name in names]
        if not found:
            return circuit
        circuit = opened_once(circuit, found[0], book[circuit[found[0]].kind.name])


class OpenedTest(Case):
    def test_the_example(self):
        more = book_of(half=("p:a q:b", "r two 3 a b"), pair=("p:a q:b", "u half - a x", "v half - b x"))
        told = flat(more, "pair")
        other = Book({"pair": told})
        self.assertEqual([told.part_names(), other["pair"]["v/r"].nets], [["u/r", "v/r"], ("b", "x")])

    def test_plain_trial(self):
        chance = Random(1)
        for _ in range(60):
            book = random_book(chance)
            every = book.block_names()
            names = chance.sample(every, chance.randint(0, len(every)))
            told = opened(book, *names)
            self.assertEqual(told.block_names(), [name for name in every if name not in names])
            for name in told.block_names():
                self.assertEqual(told[name], opened_by_hand(book, name, names))
                self.assertEqual(list(told[name].ports), list(book[name].ports))
            for name in every:
                self.assertEqual(flat(book, name), opened_by_hand(book, name, every))
                self.assertEqual(flat(book, name).part_names(), sorted(names_by_hand(book, name)))

    def test_names_in_any_order_and_twice(self):
        book = small()
        told = opened(book, "half", "pair")
        for names in (("pair", "half"), ("half", "pair", "half"), ("pair", "pair", "half")):
            self.assertEqual(opened(book, *names), told)
        self.assertEqual(told.block_names(), ["top"])
        self.assertEqual(told["top"].part_names(), ["b", "k/u/r", "k/v/r", "l", "m/u/r", "m/v/r"])
        self.assertEqual(opened(book, "pair")["top"].part_names(), ["b", "k/u", "k/v", "l", "m/u", "m/v"])
        self.assertEqual(opened(book, "pair")["top"]["k/u"], book.use("half", "a", "k/x"))
        self.assertEqual(opened(book, "half")["pair"].part_names(), ["u/r", "v/r"])

    def test_none_at_all(self):
        book = small()
        told = opened(book)
        self.assertEqual(told, book)
        told["half"] = block("p:a q:b")
        self.assertEqual([book, len(opened(Book()))], [small(), 0])
        self.assertEqual(opened(book, "top").block_names(), ["half", "pair"])

    def test_ports_on_one_net(self):
        book = book_of(low=("p:a q:b r:c", "t amp 2 a b m", "s two 3 c m"), top=("p:x", "u low - x x y", "v low - y x x"))
        told = opened(book, "low")["top"]
        self.assertEqual([told["u/t"].nets, told["u/s"].nets, told["v/t"].nets, told["v/s"].nets],
                         [("x", "x", "u/m"), ("y", "u/m"), ("y", "x", "v/m"), ("x", "v/m")])

    def test_a_port_alone_on_a_net(self):
        book = book_of(low=("p:a q:b", "t tap 1 a"), top=("p:x", "u low - x y"))
        told = flat(book, "top")
        self.assertEqual([told.part_names(), told.all_nets(), told["u/t"].nets], [["u/t"], ["x"], ("x",)])
        self.assertEqual(flat(book_of(low=("p:a",), top=("p:x", "u low - x")), "top"), Circuit({"p": "x"}))

    def test_names_like_those_of_opened_ones(self):
        # The rule of [28] keeps such names away; those that only look alike may stand.
        book = book_of(low=("p:a", "t tap 1 m"), top=("p:x", "u low - x", "v/u/t tap 1 x", "ut two 1 x um"))
        told = flat(book, "top")
        self.assertEqual([told.part_names(), told.all_nets()], [["u/t", "ut", "v/u/t"], ["u/m", "um", "x"]])

    def test_wrong_names(self):
        book = small()
        for wrong in ("none", "u", 3, *ODD):
            self.fails(UnknownName, wrong, opened, book, "half", wrong, "nothing")
            self.fails(UnknownName, wrong, flat, book, wrong)
            self.fails(UnknownName, wrong, flat_alike, book, wrong, book, "none")
            self.fails(UnknownName, wrong, flat_alike, book, "top", book, wrong)

    def test_60_and_61_parts(self):
        def wide(many):
            return ("p:x", *[f"t{at:02d} tap 1 x" for at in range(many)])

        book = book_of(low=wide(3), mid=("p:x", *[f"u{at:02d} low - x" for at in range(10)]), top=(
            "p:x", "v mid - x", "w mid - x"), one=wide(60))
        self.assertEqual(len(opened(book, "low", "mid")["top"]), 60)
        book["top"] = block("p:x", "v mid - x", "w mid - x", "t tap 1 x", book=book)
        self.fails(LimitExceeded, 61, opened, book, "low", "mid")
        self.assertEqual(len(opened(book, "mid")["top"]), 21)
        self.assertEqual(len(opened(book, "low")["mid"]), 30)
        # A block that is opened itself counts, too, and the greatest number is told.
        self.fails(LimitExceeded, 61, opened, book, "low", "mid", "top")
        book["high"] = block("p:x", "a top - x", "b mid - x", book=book)
        self.fails(LimitExceeded, 91, opened, book, "mid", "low", "top")
        self.fails(LimitExceeded, 91, opened, book, "high", "mid", "low", "top")
        self.fails(UnknownName, "none", opened, book, "low", "mid", "none")
        self.assertEqual(len(book), 5)

    def test_great_books(self):
        book = chain(60)
        self.fails(LimitExceeded, 2 ** 61, opened, book, *[f"b{at}" for at in range(60)])
        self.fails(LimitExceeded, book.spread_of("b60"), flat, book, "b60")
        self.assertEqual(len(opened(book, "b0", "b1", "b2")["b4"]), 2)
        self.assertEqual(len(opened(book, *[f"b{at}" for at in range(4, 8)])["b8"]), 32)

    def test_spreads_of_60_and_61(self):
        def of(many):
            return book_of(low=("p:x", *[f"t{at:02d} tap 1 x" for at in range(8)]), top=(
                "p:x", *[f"u{at} low - x" for at in range(6)], *[f"t{at} tap 1 x" for at in range(many)]))

        self.assertEqual([of(6).spread_of("top"), len(flat(of(6), "top"))], [60, 54])
        self.fails(LimitExceeded, 61, flat, of(7), "top")

    def test_books_stay(self):
        book = small()
        told = flat(book, "top")
        told["b"]["a"] = "z"
        self.assertEqual([book, flat(book, "top") == told], [small(), False])
        half = flat(book, "half")
        half.take_out("r")
        self.assertEqual(len(book["half"]), 1)


class AlikeTest(Case):
    def test_alike(self):
        one = small()
        other = book_of(all=("q:z p:y s:x", "t1 two 3 y y1", "t2 two 3 y1 x", "t3 two 3 x x2", "t4 two 3 x2 z", "t5 res 2 z y",
                             "t6 two 7 x x3"))
        self.assertIs(flat_alike(one, "top", other, "all"), True)
        self.assertIs(flat_alike(one, "top", one, "top"), True)
        for name in ("half", "pair"):
            self.assertIs(flat_alike(one, "top", one, name), False)
        self.assertIs(flat_alike(one, "pair", other, "all"), False)

    def test_joined_across_blocks(self):
        one = book_of(low=("p:a q:b", "r res 2 a m"), top=("p:x q:y", "u low - x z", "s res 1 x n", "t res 3 n y"))
        self.assertIs(flat_alike(one, "top", book_of(b=("p:a q:b", "r res 4 a b")), "b"), True)

    def test_limits(self):
        low = ("p:x", *[f"t{at:02d} tap 1 x" for at in range(13)])
        book = book_of(low=low, top=("p:x", *[f"u{at} low - x" for at in range(5)]), fine=("p:x", "t tap 1 x"))
        self.fails(LimitExceeded, 70, flat_alike, book, "top", book, "top")
        self.fails(LimitExceeded, 70, flat_alike, book, "fine", book, "top")
        self.fails(LimitExceeded, 70, flat_alike, book, "top", book, "none")
        self.fails(LimitExceeded, 13, flat_alike, book, "low", book, "fine")
        self.fails(LimitExceeded, 13, flat_alike, book, "fine", book, "low")

    def test_alike_blocks_have_alike_flat_circuits(self):
        chance, seen = Random(2), 0
        for _ in range(60):
            one = random_book(chance)
            other = disguised(chance, one, same_ports=True, spoil=0.05)
            for name in one.block_names():
                ports = {port: port for port in one.kind_of(name).pins}
                forms = reduced(flat(one, name)), reduced(flat(other, f"z{name}"))
                if max(map(len, forms)) <= 12 and alike_under(one, name, other, f"z{name}", ports):
                    self.assertTrue(alike(*forms))
                    self.assertTrue(flat_alike(one, name, other, f"z{name}"))
                    seen += one.depth_of(name) > 0
        self.assertGreater(seen, 40)

    def test_parts_of_unlike_kinds(self):
        one = Book({"a": Circuit({"p": "x"}, {"t": Part(TAP, 1, "x")})})
        other = Book({"a": Circuit({"p": "x"}, {"t": Part(TWO, 1, "x", "x")})})
        self.assertIs(flat_alike(one, "a", other, "a"), False)
