"""Points 3 (e) and 34 and the interface section opening."""

from itertools import combinations
from random import Random

from wishedwires.blocks import Book
from wishedwires.circuits import Circuit
from wishedwires.classes import classing, lets_classing
from wishedwires.errors import LimitExceeded, UnknownName
from wishedwires.flat import flat, flat_alike, opened
from wishedwires.opening import least_openings, lets_openings, openings
from tests.helper import ODD, Case, alike_under, block, book_of, disguised, random_book, small


def sets_of(one, name, other, other_name):
    """All sets, by ascending number of names."""
    used = [(0, inner) for inner in one.uses(name)] + [(1, inner) for inner in other.uses(other_name)]
    return [(tuple(inner for side, inner in chosen if side == 0), tuple(inner for side, inner in chosen if side == 1))
            for many in range(len(used) + 1) for chosen in combinations(used, many)]


def books_at(one, name, other, other_name, names):
    """The books of two blocks opened at a set."""
    return opened(one.only(name), *names[0]), opened(other.only(other_name), *names[1])


def are_alike(one, name, other, other_name, names):
    """Whether two blocks are alike at a set under the map of equal names, by a plain trial."""
    mine, theirs = books_at(one, name, other, other_name, names)
    ports = {port: port for port in one.kind_of(name).pins}
    if sorted(ports) != sorted(other.kind_of(other_name).pins):
        return False
    return alike_under(mine, name, theirs, other_name, ports)


def regrouped(chance, book, name):
    """The book of a block, some of the blocks that it uses opened."""
    used = book.uses(name)
    return opened(book.only(name), *chance.sample(used, chance.randint(0, len(used))))


class OpeningsTest(Case):
    def test_the_example(self):
        more = book_of(half=("p:a q:b", "r two 3 a b"), pair=("p:a q:b", "u half - a x", "v half - b x"))
        other = Book({"pair": flat(more, "pair")})
        self.assertEqual(least_openings(more, "pair", other, "pair"), (("half",), ()))
        paper = openings(more, "pair", other, "pair")
        self.assertEqual([names for names, _ in paper], [((), ()), (("half",), ())])
        self.assertIs(lets_openings(more, "pair", other, "pair", paper), True)
        turned = openings(other, "pair", more, "pair")
        self.assertEqual(turned[-1][0], ((), ("half",)))
        self.assertIs(lets_openings(other, "pair", more, "pair", turned), True)
        self.assertIs(lets_openings(more, "pair", other, "pair", turned), False)

    def test_plain_trial(self):
        chance, seen = Random(1), []
        while len(seen) < 60:
            one = random_book(chance)
            other = disguised(chance, one, same_ports=True, spoil=0.1)
            name = chance.choice(one.block_names())
            other = regrouped(chance, other, f"z{name}")
            one = regrouped(chance, one, name)
            used = len(one.uses(name)) + len(other.uses(f"z{name}"))
            if max(one.spread_of(name), other.spread_of(f"z{name}")) > 12 or not 0 < used <= 6:
                continue
            pair = (one, name, other, f"z{name}")
            every = sets_of(*pair)
            fine = [names for names in every if are_alike(*pair, names)]
            paper = openings(*pair)
            self.assertIs(lets_openings(*pair, paper), True)
            told = [names for names, _ in paper]
            least = least_openings(*pair)
            if fine:
                fewest = len(fine[0][0]) + len(fine[0][1])
                self.assertEqual([least, len(least[0]) + len(least[1]), least in fine], [told[-1], fewest, True])
                self.assertLessEqual({names for names in every if len(names[0]) + len(names[1]) < fewest}, set(told))
            else:
                self.assertIsNone(least)
                self.assertCountEqual(told, every)
            for names, classes in paper:
                self.assertTrue(lets_classing(*books_at(*pair, names), classes))
            self.assertEqual(bool(fine), flat_alike(*pair))
            seen.append((bool(fine), len(paper) > 1))
        self.assertGreater(min(seen.count((True, True)), seen.count((True, False)), seen.count((False, True))), 3)

    def test_unlike_port_names(self):
        one, other = small(), book_of(b=("p:a r:b", "r two 3 a b"))
        self.assertIsNone(least_openings(one, "half", other, "b"))
        paper = openings(one, "pair", other, "b")
        self.assertEqual([names for names, _ in paper], [((), ()), (("half",), ())])
        self.assertIs(lets_openings(one, "pair", other, "b", paper), True)
        self.assertIs(lets_openings(one, "pair", other, "b", paper[:1]), False)

    def test_no_openings(self):
        self.assertEqual(least_openings(small(), "top", small(), "top"), ((), ()))
        self.assertEqual(len(openings(small(), "top", small(), "top")), 1)
        self.assertEqual(least_openings(small(), "half", small(), "pair"), None)

    def test_in_both_books(self):
        half, wide = ("p:a q:b", "r two 3 a b"), ("p:a q:b", "s tap 1 a", "r two 3 a b")
        one = book_of(half=half, top=("p:a q:b", "u half - a x", "t tap 1 x", "r two 3 x b"))
        other = book_of(wide=wide, top=("p:a q:b", "w wide - x b", "r two 3 a x"))
        self.assertEqual(least_openings(one, "top", other, "top"), (("half",), ("wide",)))

    def test_wrong_names(self):
        one = small()
        for wrong in ("none", "u", 3, *ODD):
            for call, args in ((openings, ()), (least_openings, ()), (lets_openings, (None,))):
                self.fails(UnknownName, wrong, call, one, wrong, one, "nothing", *args)
                self.fails(UnknownName, wrong, call, one, "top", one, wrong, *args)

    def test_spreads_of_12_and_13(self):
        def of(many):
            return book_of(low=("p:x", *[f"t{at} tap 1 x" for at in range(4)]), top=(
                "p:x", "u low - x", "v low - x", *[f"s{at} tap 1 x" for at in range(many)]))

        twelve, thirteen = of(2), of(3)
        self.assertEqual([twelve.spread_of("top"), thirteen.spread_of("top")], [12, 13])
        paper = openings(twelve, "top", twelve, "top")
        self.assertIs(lets_openings(twelve, "top", twelve, "top", paper), True)
        for pair in ((thirteen, "top", twelve, "top"), (twelve, "top", thirteen, "top")):
            for call, args in ((openings, ()), (least_openings, ()), (lets_openings, (paper,))):
                self.fails(LimitExceeded, 13, call, *pair, *args)

    def test_six_and_seven_blocks(self):
        def of(many):
            blocks = {"b0": ("p:x", "t tap 1 x")}
            for at in range(many):
                blocks[f"b{at + 1}"] = ("p:x", f"u b{at} - x", "s tap 1 x")
            return book_of(**blocks)

        one, other = of(3), of(4)
        self.assertEqual([len(one.uses("b3")), len(other.uses("b4"))], [3, 4])
        paper = openings(one, "b3", one, "b3")
        self.assertEqual(len(openings(one, "b3", of(2), "b2")), 2 ** 5)
        self.assertIs(lets_openings(one, "b3", one, "b3", paper), True)
        self.assertIs(lets_openings(one, "b3", other, "b3", paper), True)
        for pair in ((one, "b3", other, "b4"), (other, "b4", one, "b3")):
            for call, args in ((openings, ()), (least_openings, ()), (lets_openings, (paper,))):
                self.fails(LimitExceeded, 7, call, *pair, *args)
        # The spread comes first.
        wide = block("p:x", "u b3 - x", *[f"t{at:02d} tap 1 x" for at in range(9)], book=other)
        other["b4"] = wide
        self.fails(LimitExceeded, other.spread_of("b4"), openings, one, "b3", other, "b4")

    def test_blocks_that_are_not_used(self):
        one = small()
        one["great"] = block("p:x", *[f"t{at:02d} tap 1 x" for at in range(20)])
        self.assertEqual(least_openings(one, "top", small(), "top"), ((), ()))

    def test_books_stay(self):
        one, other = small(), Book({"top": flat(small(), "top")})
        paper = openings(one, "top", other, "top")
        self.assertEqual([one, other["top"], paper], [small(), flat(small(), "top"), openings(small(), "top", other, "top")])


class LetsTest(Case):
    def setUp(self):
        self.one = book_of(half=("p:a q:b", "r two 3 a b"), turn=("p:a q:b", "u half - b a"),
                           top=("p:a q:b", "u turn - a x", "v half - x b", "t amp 1 a b x"))
        self.other = Book({"top": flat(self.one, "top")})
        self.pair = (self.one, "top", self.other, "top")
        self.paper = openings(*self.pair)
        self.assertEqual([names for names, _ in self.paper][-1], (("half", "turn"), ()))

    def row(self, names):
        return (names, classing(*books_at(*self.pair, names)))

    def lets(self, paper):
        return lets_openings(*self.pair, paper)

    def test_right(self):
        first, half, turn, last = self.paper
        for paper in (self.paper, (first, turn, half, last), tuple(self.row(names) for names, _ in self.paper)):
            self.assertIs(self.lets(paper), True)

    def test_wrong(self):
        first, half, turn, last = self.paper
        for wrong in (*ODD, 3, (), list(self.paper), self.paper[:-1], self.paper[:2], self.paper[1:], (first, half, last),
                      (first, half, turn, last, last), (first, half, half, turn, last), (half, first, turn, last),
                      (first, half, last, turn), self.paper[::-1], (last,), (first, half, turn, list(last)),
                      (first, half, turn, (*last, 1)), (first, half, turn, last[:1]), (first, half, turn, 3),
                      (first, half, turn, (last[0], first[1])), (first, half, turn, (last[0], None)),
                      (first, (half[0], turn[1]), turn, last), (first, (turn[0], half[1]), turn, last)):
            self.assertIs(self.lets(wrong), False)

    def test_wrong_sets(self):
        first, half, turn, last = self.paper
        for wrong in ((("turn", "half"), ()), [("half", "turn"), ()], (["half", "turn"], ()), (("half", "turn"), []),
                      (("half", "turn"),), (("half", "turn"), (), ()), (("half", "half", "turn"), ()), (("half", "top"), ()),
                      (("half", "turn"), ("top",)), ("half", "turn"), None, ((True,), ()), (("half", None), ())):
            self.assertIs(self.lets((first, half, turn, (wrong, last[1]))), False)

    def test_alike_in_no_row(self):
        other = Book({"top": Circuit({"p": "a", "q": "b"})})
        pair = (self.one, "top", other, "top")
        paper = openings(*pair)
        self.assertEqual(len(paper), 4)
        self.assertIs(lets_openings(*pair, paper), True)
        for wrong in (paper[:-1], paper[:1], (), (*paper, paper[-1]), paper[::-1], self.paper):
            self.assertIs(lets_openings(*pair, wrong), False)

    def test_alike_too_early(self):
        # With the blocks of one book on both sides they are alike at once, so no further row may stand there.
        pair = (self.one, "top", self.one, "top")
        first = openings(*pair)
        self.assertEqual([len(first), lets_openings(*pair, first)], [1, True])
        more = [(names, classing(*books_at(*pair, names))) for names in sets_of(*pair)]
        for many in range(2, len(more) + 1):
            self.assertIs(lets_openings(*pair, tuple(more[:many])), False)
        # A set of one name at which they are not alike may not be the last row either.
        self.assertIs(lets_openings(*pair, (more[1],)), False)

    def test_another_row_of_the_same_number(self):
        # Both sets of two names are alike; either may be last, and a row that is not alike may stand ahead of it.
        half = ("p:a q:b", "r two 3 a b")
        one = book_of(half=half, far=("p:a q:b", "r two 4 a b"), top=("p:a q:b", "u half - a x", "v far - x b"))
        other = book_of(half=half, top=("p:a q:b", "u half - a x", "w two 4 x b"))
        pair = (one, "top", other, "top")
        self.assertEqual(least_openings(*pair), (("far",), ()))
        rows = {names: (names, classing(*books_at(*pair, names))) for names in sets_of(*pair)}
        empty, far, mine, theirs = ((), ()), (("far",), ()), (("half",), ()), ((), ("half",))
        for right in ((empty, far), (empty, mine, far), (empty, theirs, mine, far)):
            self.assertIs(lets_openings(*pair, tuple(rows[names] for names in right)), True)
        for wrong in ((far,), (empty, mine), (empty, far, mine), (mine, empty, far), (empty, mine, mine, far)):
            self.assertIs(lets_openings(*pair, tuple(rows[names] for names in wrong)), False)
