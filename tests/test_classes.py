"""Point 31 and the interface section classes; point 30 by plain trials of all port maps and maps of nets."""

from itertools import permutations
from random import Random

from wishedwires.blocks import BlockKind, Book
from wishedwires.circuits import Circuit
from wishedwires.classes import ClassKind, class_form, classing, lets_classing
from wishedwires.entries import Item
from wishedwires.errors import LimitExceeded
from wishedwires.forms import Form
from wishedwires.kinds import Kind, PinKind
from wishedwires.matching import matchings
from wishedwires.parts import Part
from wishedwires.refuting import lets_matching, lets_refutation, refutation
from tests.helper import ODD, TAP, TWO, Case, block, book_of, chain, disguised, port_maps, random_book, small


def integer(value):
    return isinstance(value, int) and not isinstance(value, bool)


def is_right(one, other, paper):
    """Whether a paper that has the form of a classing is right: point 31 word by word."""
    books, seats, firsts = (one, other), {}, []
    for members, turns, apart in paper:
        forms = []
        exchanges = tuple(turn for turn, nets, _ in turns if nets is not None)
        for side, name, ports, nets in members:
            own = {block: seat for (there, block), seat in seats.items() if there == side}
            if (side, name) in seats or any(block not in own for block in books[side].uses(name)):
                return False
            if sorted(ports) != sorted(books[side].kind_of(name).pins):
                return False
            forms.append(class_form(books[side], name, ports, own))
            if list(nets) != sorted(nets) or len(dict(nets)) != len(nets):
                return False
            if not lets_matching(forms[0], forms[-1], dict(nets)):
                return False
        side, name, ports, _ = members[0]
        if ports != books[side].kind_of(name).pins:
            return False
        own = {block: seat for (there, block), seat in seats.items() if there == side}

        def turned(turn):
            return class_form(books[side], name, tuple(ports[at] for at in turn), own)
        every = list(permutations(range(len(ports))))
        if [turn for turn, _, _ in turns] != every:
            return False
        for turn, nets, paper_of_turn in turns:
            if nets is None and not lets_refutation(forms[0], turned(turn), paper_of_turn):
                return False
            if nets is not None and (paper_of_turn is not None or list(nets) != sorted(nets) or not lets_matching(
                    forms[0], turned(turn), dict(nets)) or len(dict(nets)) != len(nets)):
                return False
        count = items_of(books[side], name)
        if [index for index, _ in apart] != list(range(len(firsts))):
            return False
        for (index, reason), (form, before) in zip(apart, firsts):
            if len(form.ports) != len(ports):
                fine = reason == ("ports",)
            elif before != count:
                fine = reason == ("items", count, before)
            else:
                fine = reason[0] == "forms" and len(reason[1]) == len(every) and all(
                    lets_refutation(form, turned(turn), told) for turn, told in zip(every, reason[1]))
            if not fine:
                return False
        for side, name, ports, _ in members:
            if (side, name) in seats:
                return False
            seats[(side, name)] = (len(firsts), ports, exchanges)
        firsts.append((forms[0], count))
    return set(seats) == {(side, name) for side in (0, 1) for name in books[side].block_names()}


def items_of(book, name, known=None):
    """The number of items of a block, those of the blocks of its instances in their place."""
    known = {} if known is None else known
    if name not in known:
        known[name] = sum(items_of(book, item.kind.name, known) if isinstance(item.kind, BlockKind) else 1
                          for item in book.form_of(name))
    return known[name]


class ClassKindTest(Case):
    def test_making(self):
        kind = ClassKind(7, 3, ((1, 0, 2), (0, 1, 2)))
        self.assertIsInstance(kind, Kind)
        self.assertEqual([kind.pins, kind.orders, list(kind.exchanges()), kind.is_path, kind.controls],
                         [("p1", "p2", "p3"), ((0, 1, 2), (1, 0, 2)), [(0, 1, 2), (1, 0, 2)], False, ()])
        part = Part(kind, 1, "x", "y", "z")
        self.assertEqual([part["p3"], len(part)], ["z", 3])
        self.assertEqual(ClassKind(999999, 0, ((),)).pins, ())

    def test_equal(self):
        kind = ClassKind(7, 2, ((0, 1), (1, 0)))
        self.assertTrue(kind == ClassKind(7, 2, ((1, 0), (0, 1))))
        self.assertFalse(kind != ClassKind(7, 2, ((1, 0), (0, 1))))
        for other in (ClassKind(8, 2, ((0, 1), (1, 0))), ClassKind(7, 2, ((0, 1),)), ClassKind(7, 3, ((0, 1, 2), (1, 0, 2))),
                      ClassKind(72, 2, ((0, 1), (1, 0))), BlockKind("class7", "p1", "p2"), PinKind("class7", "p1", "p2"), *ODD):
            self.assertFalse(kind == other)

    def test_ten_ports_and_more(self):
        plain = tuple(range(12))
        turned = (0, 11, *range(2, 11), 1)
        kind, other = ClassKind(1, 12, (turned, plain)), ClassKind(1, 12, (plain,))
        self.assertEqual([kind.pins[9:], kind.orders, kind == other], [("p10", "p11", "p12"), (plain, turned), False])
        self.assertFalse(ClassKind(1, 12, (plain, (1, 0, *range(2, 12)))) == ClassKind(1, 12, (plain, (10, *range(1, 10), 0, 11))))
        nets = [f"n{at}" for at in range(12)]
        swapped = [nets[at] for at in turned]
        self.assertEqual(Item.single(kind, 1, nets, ["t"]), Item.single(kind, 1, swapped, ["t"]))
        self.assertNotEqual(Item.single(other, 1, nets, ["t"]), Item.single(other, 1, swapped, ["t"]))
        unlike = [nets[at] for at in (1, 0, *range(2, 12))]
        self.assertNotEqual(Item.single(kind, 1, nets, ["t"]), Item.single(kind, 1, unlike, ["t"]))


class ClassFormTest(Case):
    def test_forms(self):
        book = small()
        classes = {"half": (4, ("q", "p"), ((0, 1),)), "pair": (5, ("p", "q"), ((0, 1), (1, 0)))}
        form = class_form(book, "pair", ("q", "p"), classes)
        kind = ClassKind(4, 2, ((0, 1),))
        right = Form({"p1": "b", "p2": "a"}, [Item.single(kind, 1, ["x", "a"], ["u"]), Item.single(kind, 1, ["x", "b"], ["v"])])
        self.assertEqual([form, form.record[1]], [right, right.record[1]])
        top = class_form(book, "top", ("s", "p", "q"), classes)
        self.assertEqual([top.ports, len(top)], [{"p1": "c", "p2": "a", "p3": "b"}, 4])
        self.assertEqual(top.item_of("k").kind, ClassKind(5, 2, ((1, 0), (0, 1))))
        self.assertEqual([top.item_of("b"), top.item_of("l")], [book.form_of("top").item_of(name) for name in "bl"])
        self.assertEqual(class_form(book, "half", ("p", "q"), {}), Form({"p1": "a", "p2": "b"}, book.form_of("half").entries))


class ClassingTest(Case):
    def told(self, one, other):
        """The classing, which is looked at from all sides."""
        paper = classing(one, other)
        self.assertIs(lets_classing(one, other, paper), True)
        self.assertTrue(is_right(one, other, paper))
        self.assertEqual(classing(one.copied(), other.copied()), paper)
        return paper

    def test_plain_trial(self):
        chance, alike = Random(1), 0
        for _ in range(40):
            one = random_book(chance)
            other = disguised(chance, one, spoil=0.1)
            paper = self.told(one, other)
            seats = {(side, name): (index, ports) for index, (members, _, _) in enumerate(paper)
                     for side, name, ports, _ in members}
            turns = [[turn for turn, nets, _ in rows if nets is not None] for _, rows, _ in paper]
            books = (one, other)
            for side, name in seats:
                for there, place in seats:
                    maps = port_maps(books[side], name, books[there], place)
                    (index, ports), (other_index, other_ports) = seats[(side, name)], seats[(there, place)]
                    self.assertEqual(index == other_index, bool(maps))
                    alike += bool(maps) and (side, name) != (there, place)
                    if maps:
                        told = [dict(zip(ports, [other_ports[at] for at in turn])) for turn in turns[index]]
                        self.assertCountEqual(told, maps)
        self.assertGreater(alike, 100)

    def test_small_books(self):
        self.assertEqual(self.told(Book(), Book()), ())
        paper = self.told(small(), Book())
        self.assertEqual([[member[:2] for member in members] for members, _, _ in paper],
                         [[(0, "half")], [(0, "pair")], [(0, "top")]])
        self.assertEqual([apart for _, _, apart in paper[:2]], [(), ((0, ("items", 2, 1)),)])
        self.assertEqual(paper[2][2], ((0, ("ports",)), (1, ("ports",))))
        both = self.told(small(), small())
        self.assertEqual([[member[:2] for member in members] for members, _, _ in both],
                         [[(0, "half"), (1, "half")], [(0, "pair"), (1, "pair")], [(0, "top"), (1, "top")]])

    def test_alike_by_other_orders_of_ports(self):
        one = book_of(b=("p:x q:y r:z", "t amp 1 x y z", "s tap 1 x"))
        other = book_of(c=("q:x p:y r:z", "t amp 1 z x y", "s tap 1 x"), d=("q:x p:y r:z", "t amp 1 x y z", "s tap 2 x"))
        paper = self.told(one, other)
        self.assertEqual([len(members) for members, _, _ in paper], [2, 1])
        self.assertEqual(paper[0][0][1][:3], (1, "c", ("p", "q", "r")) if paper[0][0][1][2][0] == "p" else (
            1, "c", paper[0][0][1][2]))
        self.assertEqual(paper[1][2][0][1][0], "forms")

    def test_five_ports(self):
        ring = ("p:a q:b r:c s:d t:e", *[f"w{at} wire 1 {'abcde'[at]} {'abcde'[(at + 1) % 5]}" for at in range(5)])
        star = ("p:a q:b r:c s:d t:e", *[f"w{at} wire 1 {'abcde'[at]} m" for at in range(5)])
        line = ("p:a q:b r:c s:d t:e", *[f"w{at} wire 1 {'abcde'[at]} {'abcdef'[at + 1]}" for at in range(4)], "x tap 1 a")
        paper = self.told(book_of(ring=ring, star=star), book_of(line=line, other=star))
        many = {members[0][1]: sum(nets is not None for _, nets, _ in turns) for members, turns, _ in paper}
        self.assertEqual(many, {"ring": 10, "star": 120, "line": 1} if "star" in many else {"ring": 10, "other": 120, "line": 1})

    def test_limits(self):
        def of_items(many):
            return ("p:n0", *[f"t{at:02d} tap 1 n0" for at in range(many)])

        def of_nets(many):
            nets = [f"n{at}" for at in range(many)]
            rows = [nets[at:at + 3] for at in range(0, many, 3)]
            return ("p:n0", *[f"t{at:02d} amp 1 {' '.join((row * 3)[:3])}" for at, row in enumerate(rows)])

        fine = book_of(a=of_items(12), b=of_nets(24))
        self.assertEqual(len(self.told(fine, Book())), 2)
        for books, given in (((book_of(a=of_items(13), b=of_items(15), c=of_nets(30)), Book()), 15),
                             ((book_of(a=of_nets(25)), book_of(a=of_items(13))), 13),
                             ((Book(), book_of(a=of_nets(25), b=of_nets(27))), 27), ((book_of(a=of_nets(26)), fine), 26)):
            self.fails(LimitExceeded, given, classing, *books)
            for paper in (None, (), classing(fine, Book())):
                self.fails(LimitExceeded, given, lets_classing, *books, paper)

    def test_many_blocks(self):
        one = chain(60)
        other = chain(60, nets=("m y", "x m"))
        paper = self.told(one, other)
        self.assertEqual([len(members) for members, _, _ in paper], [2] * 61)
        self.assertEqual(len(self.told(one, chain(60, first=("p:x q:y", "r two 4 x y", "s amp 2 x y z")))), 122)


class LetsTest(Case):
    """Papers by other authors, and spoilt ones."""

    def setUp(self):
        self.one = small()
        self.one["mixed"] = block("p:a q:b s:c", "k half - a c", "t amp 1 a b m", book=self.one)
        self.one["mixes"] = block("p:a q:b s:c", "k half - a c", "t amp 1 b m a", book=self.one)
        self.other = book_of(part=("q:a p:b", "r two 3 a b"), over=("q:y p:x", "n part - y m", "o part - m x"),
                             line=("p:a q:b", "r two 4 a b"))
        self.paper = classing(self.one, self.other)
        self.assertIs(lets_classing(self.one, self.other, self.paper), True)

    def lets(self, paper):
        """What the checker tells, which is what a plain one tells."""
        told = lets_classing(self.one, self.other, paper)
        self.assertEqual(told, is_right(self.one, self.other, paper))
        return told

    def at(self, *path):
        """The paper with what stands at a path replaced: the path ends in the new value."""
        *way, value = path

        def replaced(row, steps):
            if not steps:
                return value
            return (*row[:steps[0]], replaced(row[steps[0]], steps[1:]), *row[steps[0] + 1:])
        return replaced(self.paper, way)

    def refused(self, *path):
        self.assertIs(lets_classing(self.one, self.other, self.at(*path)), False, path)

    def test_no_papers(self):
        for wrong in (*ODD, 3, "classes", list(self.paper), self.paper[:-1], self.paper[1:], (*self.paper, self.paper[-1]),
                      (*self.paper, ()), self.paper[::-1]):
            self.assertIs(lets_classing(self.one, self.other, wrong), False)
        for at in range(len(self.paper)):
            self.refused(at, list(self.paper[at]))
            self.refused(at, self.paper[at][:2])
            self.refused(at, (*self.paper[at], ()))
            for field in range(3):
                for wrong in (None, list(self.paper[at][field]), (*self.paper[at][field], self.paper[at][field][:1]), 3):
                    self.refused(at, field, wrong)
        self.assertIs(lets_classing(self.other, self.one, self.paper), False)
        self.assertIs(lets_classing(Book(), Book(), ()), True)

    def test_members(self):
        index = next(at for at, row in enumerate(self.paper) if len(row[0]) == 2)
        first, second = self.paper[index][0]
        for wrong in ((), (first,), (first, second, second), (first, first), (second,), (first, list(second)),
                      (first, second[:3]), (first, (*second, ()))):
            self.refused(index, 0, wrong)
        for field, wrong in ((0, True), (0, 2), (0, -1), (0, None), (0, 1 - second[0]), (1, "none"), (1, None), (1, ["half"]),
                             (2, list(second[2])), (2, second[2][:1]), (2, (*second[2], "p")), (2, ("p", "p")), (2, (1, 2)),
                             (3, list(second[3])), (3, second[3][:-1]), (3, second[3][::-1]), (3, second[3] + second[3][:1]),
                             (3, tuple(list(pair) for pair in second[3])), (3, dict(second[3])),
                             (3, tuple(pair * 2 for pair in second[3])), (3, ((1, 2),))):
            self.refused(index, 0, 1, field, wrong)
        self.refused(index, 0, 0, 0, False)
        self.refused(index, 0, 0, 2, first[2][::-1])

    def test_another_first_member(self):
        # The class of half and part, with the one or the other first, and with either order of the second one's ports.
        told = []
        for members in (((0, "half", ("p", "q")), (1, "part", ("q", "p"))), ((0, "half", ("p", "q")), (1, "part", ("p", "q"))),
                        ((1, "part", ("q", "p")), (0, "half", ("p", "q"))), ((1, "part", ("q", "p")), (0, "half", ("q", "p"))),
                        ((1, "part", ("p", "q")), (0, "half", ("q", "p")))):
            paper = self.rebuilt({0: members})
            told.append(paper is not None and self.lets(paper))
        self.assertEqual(told, [True, True, True, True, False])

    def rebuilt(self, chosen=None, order=None):
        """A classing with other members, told as (side, name, ports), or in another order of classes; else as it is."""
        books, seats, rows = (self.one, self.other), {}, []
        for at in order or range(len(self.paper)):
            members = (chosen or {}).get(at) or [member[:3] for member in self.paper[at][0]]

            def formed(side, name, ports):
                own = {block: seat for (there, block), seat in seats.items() if there == side}
                return class_form(books[side], name, ports, own)
            first = formed(*members[0])
            told = []
            for member in members:
                found = list(matchings(first, formed(*member)))
                if not found:
                    return None
                told.append((*member, tuple(found[-1])))
            side, name, ports = members[0]
            turns, apart = [], []
            for turn in permutations(range(len(ports))):
                turned = formed(side, name, tuple(ports[place] for place in turn))
                found = list(matchings(first, turned))
                turns.append((turn, tuple(found[-1]), None) if found else (turn, None, refutation(first, turned)))
            count = items_of(books[side], name)
            for before, (form, number) in enumerate(rows_forms := [row[3] for row in rows]):
                if len(form.ports) != len(ports):
                    reason = ("ports",)
                elif number != count:
                    reason = ("items", count, number)
                else:
                    reason = ("forms", tuple(refutation(form, formed(side, name, tuple(ports[place] for place in turn)))
                                             for turn in permutations(range(len(ports)))))
                apart.append((before, reason))
            for side, name, ports in members:
                exchanges = tuple(turn for turn, nets, _ in turns if nets is not None)
                seats[(side, name)] = (len(rows), ports, exchanges)
            rows.append((tuple(told), tuple(turns), tuple(apart), (first, count)))
            self.assertEqual(len(rows_forms), len(rows) - 1)
        return tuple(row[:3] for row in rows)

    def test_classes_in_another_order(self):
        seen = {True: 0, False: 0}
        for order in permutations(range(len(self.paper))):
            behind = {name: place for place, at in enumerate(order) for _, name, _, _ in self.paper[at][0]}
            fine = all(behind[used] < behind[name] for name in self.one.block_names() for used in self.one.uses(name))
            if fine:
                self.assertTrue(self.lets(self.rebuilt(order=order)))
            else:
                self.assertIs(lets_classing(self.one, self.other, tuple(self.paper[at] for at in order)), False)
            seen[fine] += 1
        self.assertGreater(min(seen.values()), 1)

    def test_a_class_split_or_joined(self):
        index = next(at for at, row in enumerate(self.paper) if len(row[0]) == 2)
        for keep in (0, 1):
            self.refused(index, 0, (self.paper[index][0][keep],))
        members = [row[0] for row in self.paper]
        pairs = [(one, other) for one in range(len(members)) for other in range(one + 1, len(members))]
        for one, other in pairs:
            self.refused(one, 0, members[one] + members[other])
            self.refused(other, 0, members[other] + members[one])

    def test_turns(self):
        for at, (_, turns, _) in enumerate(self.paper):
            self.refused(at, 1, turns[:-1])
            self.refused(at, 1, turns[::-1])
            for place, (turn, nets, paper) in enumerate(turns):
                self.refused(at, 1, place, [turn, nets, paper])
                self.refused(at, 1, place, (turn, nets))
                self.refused(at, 1, place, 0, list(turn))
                self.refused(at, 1, place, 0, tuple(map(str, turn)))
                self.refused(at, 1, place, 0, tuple(bool(index) if index < 2 else index for index in turn))
                self.refused(at, 1, place, (turn, None, None))
                self.refused(at, 1, place, (turn, nets or (), paper or ("ports", "p1")))
                if nets is not None:
                    self.refused(at, 1, place, (turn, None, ("ports", "p1")))
                    self.refused(at, 1, place, 1, nets[1:])
                    self.refused(at, 1, place, 1, list(nets))
                else:
                    self.refused(at, 1, place, (turn, tuple(turns[0][1]), None))
                    self.refused(at, 1, place, 2, ("rounds", (), ("net", 0)))

    def test_apart(self):
        words = set()
        for at, (_, _, apart) in enumerate(self.paper):
            self.assertEqual(len(apart), at)
            for before, (index, reason) in enumerate(apart):
                words.add(reason[0])
                for wrong in ([index, reason], (index,), (index, reason, ()), (index + 1, reason), (bool(index), reason),
                              (str(index), reason), (None, reason), (index, list(reason)), (index, None), (index, (*reason, 1)),
                              (index, reason[:-1]), (index, ("nothing",)), (index, ("ports", "p1"))):
                    self.refused(at, 2, before, wrong)
                others = [("ports",), ("items", 2, 1), ("items", 1, 2), ("items", 2, 2), ("forms", ()), ("forms",),
                          ("items", True, 2), ("items", 2, True)]
                for wrong in others:
                    if wrong != reason or any(isinstance(number, bool) for number in wrong):
                        self.refused(at, 2, before, (index, wrong))
                if reason[0] == "forms":
                    self.refused(at, 2, before, 1, 1, reason[1][:-1])
                    self.refused(at, 2, before, 1, 1, list(reason[1]))
                    self.refused(at, 2, before, 1, 1, (None, *reason[1][1:]))
            if apart:
                self.refused(at, 2, apart[:-1])
                self.refused(at, 2, (*apart, apart[-1]))
        self.assertEqual(words, {"ports", "items", "forms"})

    def test_random_spoils(self):
        chance, told = Random(2), []
        for _ in range(12):
            self.one = random_book(chance)
            self.other = disguised(chance, self.one)
            self.paper = classing(self.one, self.other)
            for _ in range(20):
                at = chance.randrange(len(self.paper))
                members, turns, apart = self.paper[at]
                what = chance.random()
                if what < 0.4:
                    place = chance.randrange(len(members))
                    side, name, ports, nets = members[place]
                    mixed = tuple(chance.sample(ports, len(ports)))
                    ends = chance.sample([there for _, there in nets], len(nets))
                    nets = tuple((net, there) for (net, _), there in zip(nets, ends)) if chance.random() < 0.5 else nets
                    paper = self.at(at, 0, place, (side, name, mixed, nets))
                elif what < 0.6:
                    paper = self.at(at, 0, tuple(chance.sample(members, len(members))))
                else:
                    place = chance.randrange(len(turns))
                    turn, nets, _ = turns[place]
                    nets = turns[chance.randrange(len(turns))][1]
                    paper = self.at(at, 1, place, (turn, nets, None if nets else turns[place][2]))
                told.append(self.lets(paper) if paper[at][1][0][1] is not None else False)
        self.assertGreater(min(told.count(True), told.count(False)), 20)

    def test_the_same_names_in_both_books(self):
        one, other = book_of(a=("p:x", "t tap 1 x")), book_of(a=("p:x", "t tap 2 x"))
        paper = classing(one, other)
        self.assertEqual([[member[:2] for member in members] for members, _, _ in paper], [[(0, "a")], [(1, "a")]])
        self.assertIs(lets_classing(one, one, paper), False)
        self.assertIs(lets_classing(one, other, classing(one, one)), False)

    def test_books_stay(self):
        one, other = self.one.copied(), self.other.copied()
        for first, second in zip(classing(one, other), classing(one, other)):
            self.assertEqual(first, second)
        self.assertTrue(lets_classing(one, other, self.paper))
        self.assertEqual([one, other], [self.one, self.other])

    def test_other_kinds(self):
        one = Book({"a": Circuit({"p": "x"}, {"t": Part(TAP, 1, "x")})})
        other = Book({"a": Circuit({"p": "x"}, {"t": Part(PinKind("tap", "n"), 1, "x")})})
        paper = classing(one, other)
        self.assertEqual([len(paper), lets_classing(one, other, paper)], [2, True])
        self.assertEqual(len(classing(one, Book({"z": Circuit({"q": "y"}, {"s": Part(TWO, 1, "y", "y")})}))), 2)
