"""Points 3 (e) and 30 and the interface section blockwise."""

from itertools import islice
from random import Random

from wishedwires.blocks import BlockKind, Book
from wishedwires.blockwise import BlockMatch, block_exchanges, match_books
from wishedwires.classes import classing, lets_classing
from wishedwires.errors import LimitExceeded, UnknownName
from wishedwires.forms import Form
from wishedwires.matching import matchings
from tests.helper import (ODD, Case, alike_under, block, book_of, chain, disguised, names_by_hand, of_names, port_maps,
                          random_book, small)


def item_name(book, name, full):
    """The full name of the id of the item with a part, or None if the part is dropped, step by step."""
    *path, last = book.path_of(name, full)
    for part in path:
        name = book.form_of(name).item_of(part).kind.name
    form = book.form_of(name)
    return None if last in form.dropped else "/".join([*path, form.item_of(last).id])


def item_at(book, name, full):
    """The item with the part of a full name."""
    *path, last = book.path_of(name, full)
    for part in path:
        name = book.form_of(name).item_of(part).kind.name
    return book.form_of(name).item_of(last)


def spread_form(book, name):
    """The items of a block, those of the blocks of its instances in their place, as a form; and the ids of its items."""
    told = []

    def spread(block_name, path, nets):
        form = book.form_of(block_name)
        for item in form:
            there = {net: nets.get(net, "/".join([*path, net])) for net in form.all_nets()}
            if isinstance(item.kind, BlockKind):
                inner = book.form_of(item.kind.name).ports
                ports = {inner[pin]: there[net] for pin, net in zip(item.kind.pins, item.slots)}
                spread(item.kind.name, [*path, item.id], ports)
            else:
                told.append(of_names(item.mapped(there), ["/".join([*path, item.id])]))
    form = book.form_of(name)
    spread(name, [], {net: net for net in form.all_nets()})
    return Form(form.ports, told)


class MatchTest(Case):
    looked_at = 0

    def goes_with_the_nets(self, one, name, other, other_name, told):
        """Whether some map of nets goes with the map of ids, where the forms are small enough for a trial."""
        forms = spread_form(one, name), spread_form(other, other_name)
        if max(map(len, forms)) <= 9 and max(len(form.all_nets()) for form in forms) <= 20:
            found = islice(matchings(*forms), 3000)
            self.assertTrue(any(there.id_map() == told for there in found))
            self.looked_at += 1

    def both_ways(self, one, name, other, other_name):
        """The match of two blocks, with all that is promised of match and back on every full name."""
        match = match_books(one, name, other, other_name)
        self.assertIsInstance(match, BlockMatch)
        told = {}
        for full in names_by_hand(one, name):
            found = match(full)
            if item_name(one, name, full) is None:
                self.assertIsNone(found)
            else:
                self.assertEqual(found, match(item_name(one, name, full)))
                self.assertEqual(item_name(other, other_name, found), found)
                self.assertEqual(match.back(found), item_name(one, name, full))
                self.assertEqual(item_at(one, name, full).shape, item_at(other, other_name, found).shape)
                told[item_name(one, name, full)] = found
        for full in names_by_hand(other, other_name):
            back = match.back(full)
            if item_name(other, other_name, full) is None:
                self.assertIsNone(back)
            else:
                self.assertEqual(match(back), item_name(other, other_name, full))
        ids = {item_name(other, other_name, full) for full in names_by_hand(other, other_name)} - {None}
        self.assertEqual(set(told.values()), ids)
        self.assertIs(lets_classing(one.only(name), other.only(other_name), match.paper), True)
        self.goes_with_the_nets(one, name, other, other_name, told)
        return match

    def test_the_example(self):
        more = book_of(half=("p:a q:b", "r two 3 a b"), pair=("p:a q:b", "u half - a x", "v half - b x"))
        self.assertEqual([block_exchanges(more, "pair"), match_books(more, "pair", more, "pair")("v/r")],
                         [[(0, 1), (1, 0)], "v/r"])

    def test_plain_trial(self):
        chance, seen = Random(1), []
        for _ in range(60):
            one = random_book(chance)
            other = disguised(chance, one, same_ports=chance.random() < 0.7, spoil=0.05)
            for name in one.block_names():
                ports = {port: port for port in one.kind_of(name).pins}
                there = f"z{name}"
                fine = alike_under(one, name, other, there, ports)
                if fine:
                    self.both_ways(one, name, other, there)
                else:
                    self.assertIsNone(match_books(one, name, other, there))
                seen.append(fine)
        self.assertGreater(min(seen.count(True), seen.count(False)), 30)
        self.assertGreater(self.looked_at, 20)

    def test_nets_go_with_the_instances(self):
        # Each instance of the pair is turned on its own; the parts in it go with its nets.
        low = ("p:a q:b", "t two 1 a m", "s two 2 m b")
        one = book_of(low=low, top=("p:x q:y", "u low - x m", "v low - y m", "w amp 1 m x x"))
        other = book_of(low=("q:b p:a", "s two 1 b m", "t two 2 m a"), top=("q:y p:x", "a low - x m", "b low - y m",
                                                                           "c amp 1 m x x"))
        match = self.both_ways(one, "top", other, "top")
        self.assertEqual([match("u/t"), match("u/s"), match("v/t"), match("w")], ["a/s", "a/t", "b/s", "c"])
        self.assertEqual([match.back("a/s"), match.back("c")], ["u/t", "w"])

    def test_blocks_whose_instances_have_exchanges(self):
        half = ("p:a q:b", "r two 3 a m", "s two 3 m b")
        one = book_of(half=half, pair=("p:a q:b", "u half - a x", "v half - x b", "t tap 1 x"),
                      top=("p:a q:b", "k pair - a m", "l pair - b m", "z tap 2 a"))
        for turned in ("u half - x a", "u half - a x"):
            other = book_of(half=half, pair=("p:a q:b", turned, "v half - b x", "t tap 1 x"),
                            top=("p:a q:b", "k pair - m b", "l pair - m a", "z tap 2 a"))
            match = self.both_ways(one, "top", other, "top")
            self.assertEqual([match("k/u/r")[:2], match("l/t"), match("z")], ["l/", "k/t", "z"])

    def test_dropped_and_joined_parts(self):
        one = book_of(low=("p:a q:b", "r1 res 1 a m", "r2 res 2 m b", "r3 res 5 b n", "r4 wire 1 a a"),
                      top=("p:a q:b", "u low - a b", "r5 res 1 a c"))
        other = book_of(low=("p:a q:b", "s res 3 b a"), top=("p:a q:b", "w low - b a"))
        match = self.both_ways(one, "top", other, "top")
        self.assertEqual([match(full) for full in ("u/r1", "u/r2", "u/r3", "u/r4", "r5")], ["w/s", "w/s", None, None, None])
        self.assertEqual(match.back("w/s"), "u/r1")

    def test_wrong_names(self):
        one, other = small(), small()
        for wrong in ("none", "u", 3, *ODD):
            self.fails(UnknownName, wrong, match_books, one, wrong, other, "other")
            self.fails(UnknownName, wrong, match_books, one, "half", other, wrong)
            self.fails(UnknownName, wrong, block_exchanges, one, wrong)
        match = match_books(one, "top", other, "top")
        for wrong in ("", "k", "k/u", "r", "k/r", "k/u/r/", "none", 3, *ODD):
            self.fails(UnknownName, wrong, match, wrong)
            self.fails(UnknownName, wrong, match.back, wrong)

    def test_other_ports(self):
        one = book_of(a=("p:x q:y", "t two 1 x y"))
        for ports in ("p:x r:y", "p:x", "p:x q:y r:z"):
            self.assertIsNone(match_books(one, "a", book_of(b=(ports, "t two 1 x y")), "b"))
        self.both_ways(one, "a", book_of(b=("q:x p:y", "t two 1 x y")), "b")
        arrow = book_of(a=("p:x q:y", "t arrow 1 x y"))
        self.both_ways(arrow, "a", book_of(b=("q:y p:x", "t arrow 1 x y")), "b")
        self.assertIsNone(match_books(arrow, "a", book_of(b=("q:x p:y", "t arrow 1 x y")), "b"))

    def test_limits(self):
        great = ("p:x", *[f"t{at:02d} tap 1 x" for at in range(13)])
        wide = ("p:x", *[f"t{at:02d} amp 1 n{at * 3} n{at * 3 + 1} n{at * 3 + 2}" for at in range(8)])
        book = book_of(great=great, wide=wide, low=("p:x", "t tap 1 x"), top=("p:x", "u great - x", "v wide - x"),
                       mid=("p:x", "v wide - x"))
        low = book_of(a=("p:x", "t tap 1 x"), b=("q:x", "t tap 1 x"))
        for name, given in (("great", 13), ("top", 13), ("wide", 25), ("mid", 25)):
            self.fails(LimitExceeded, given, match_books, book, name, low, "a")
            self.fails(LimitExceeded, given, match_books, low, "b", book, name)
            self.fails(LimitExceeded, given, block_exchanges, book, name)
        self.fails(UnknownName, "none", match_books, book, "top", low, "none")
        # Blocks that are not used do not count.
        self.both_ways(book, "low", low, "a")
        self.assertEqual(block_exchanges(book, "low"), [(0,)])

    def test_it_stays(self):
        one, other = small(), small()
        match = match_books(one, "top", other, "top")
        paper, told = match.paper, {full: match(full) for full in one.walk("top")}
        again = match_books(one, "top", other, "top")
        self.assertEqual([again.paper, {full: again(full) for full in one.walk("top")}], [paper, told])
        one["half"] = block("p:a q:b", "s two 1 a b")
        other["top"] = block("p:a q:b s:c")
        self.assertEqual({full: match(full) for full in told}, told)
        self.assertIs(match.paper, paper)
        self.assertEqual(paper, classing(small().only("top"), small().only("top")))
        self.fails(UnknownName, "k/u/s", match, "k/u/s")
        # A paper that is changed has no effect on the match.
        for _, turns, apart in match.paper:
            for dicts in [told_paper[1] for _, _, told_paper in turns if told_paper is not None]:
                for mine, theirs in dicts:
                    mine.clear()
                    theirs.clear()
            self.assertIsInstance(apart, tuple)
        self.assertEqual({full: match(full) for full in told}, told)

    def test_great_books(self):
        one, other = chain(59), chain(59, nets=("m y", "x m"))
        match = match_books(one, "b59", other, "b59")
        for number in (0, 1, 2 ** 60 - 1, 123456789012345678):
            full = one.name_at("b59", number)
            self.assertEqual(match.back(match(full)), full)
            self.assertEqual(one.part_of("b59", full).kind, other.part_of("b59", match(full)).kind)
        self.assertIsNone(match_books(one, "b59", chain(59, first=("p:x q:y", "r two 3 x y", "s amp 1 x y z")), "b59"))
        self.assertEqual(block_exchanges(one, "b59"), [(0, 1), (1, 0)])

    def test_one_book_twice(self):
        book = small()
        match = self.both_ways(book, "top", book, "top")
        self.assertEqual(len(match.paper), 3)
        self.assertEqual(sum(isinstance(item.kind, BlockKind) for item in book.form_of("top")), 2)


class ExchangesTest(Case):
    def test_plain_trial(self):
        chance, many = Random(2), 0
        for _ in range(40):
            book = random_book(chance)
            for name in book.block_names():
                own = book.kind_of(name).pins
                maps = port_maps(book, name, book, name)
                right = sorted(tuple(own.index(ports[port]) for port in own) for ports in maps)
                self.assertEqual(block_exchanges(book, name), right)
                many += len(right) > 1
        self.assertGreater(many, 10)

    def test_cycles(self):
        # An exchange of order three, which is not its own inverse, in a block whose ports are not in the order of a class.
        ring = ("p:a q:b r:c", "t arrow 1 a b", "u arrow 1 b c", "v arrow 1 c a")
        book = book_of(a=ring, b=("r:a q:b p:c", *ring[1:]), c=("q:a p:b r:c", "k b - a b c", "t tap 1 d"))
        for name in "abc":
            self.assertEqual(block_exchanges(book, name), [(0, 1, 2), (1, 2, 0), (2, 0, 1)])
        self.assertEqual(block_exchanges(book_of(a=("p:a q:b", "t arrow 1 a b")), "a"), [(0, 1)])

    def test_books_of_one(self):
        self.assertEqual(block_exchanges(Book({"b": block("p:x")}), "b"), [(0,)])
        self.assertEqual(len(block_exchanges(Book({"b": block("p:a q:b r:c s:d t:e")}), "b")), 120)
