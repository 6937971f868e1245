"""Points 3 (c) and (g), 22, 23 and 24 and the interface section least; a second checker, by the words, stands here."""

from itertools import product
from random import Random

from wishedwires.errors import InvalidForm, LimitExceeded
from wishedwires.expressions import Leaf
from wishedwires.forms import Form
from wishedwires.junctions import touching_set
from wishedwires.kinds import PinKind
from wishedwires.least import floor_paper, least_differences, lets_floor, weight
from wishedwires.matching import alike
from wishedwires.pricing import Pairing, Prices
from wishedwires.ratios import Ratio
from wishedwires.ways import ways
from tests.helper import AMP, ODD, TAP, TWO, WIRE, Case, branch, random_form, renamed, single, wires

SIX = PinKind("six", *"abcdef", swaps=(tuple("abcdef"),))
KINDS = [PinKind(f"k{at}", "m", "n") for at in range(14)]
STEP = Ratio(1, 7)


def all_pairings(wished, drawn, prices=None):
    """Every pairing of two forms, by a plain trial."""
    ids = sorted(item.id for item in wished)
    choices = []
    for name in ids:
        item = wished.item_of(name)
        choices.append([None] + [(other.id, way) for other in drawn for way in ways(item, other)])
    for chosen in product(*choices):
        partners = [pair[0] for pair in chosen if pair is not None]
        if len(set(partners)) == len(partners):
            pairing = Pairing(wished, drawn, prices)
            for name, pair in zip(ids, chosen):
                if pair is not None:
                    pairing[name] = pair
            yield pairing


def random_prices(chance):
    worths = (1, 1, 2, 3, Ratio(3, 2), Ratio(7, 5))
    return Prices(lost=chance.choice(worths), surplus=chance.choice(worths), value=chance.choice(worths),
                  junction=chance.choice(worths))


def pairs_of_forms(chance, many, most=200):
    """Forms with the same port names, and a weight up to most."""
    while many:
        wished, drawn = random_form(chance, "xyz"), random_form(chance, "xyz")
        if set(wished.ports) == set(drawn.ports) and 1 < weight(wished, drawn) <= most:
            many -= 1
            yield wished, drawn


def pair_signs(wished, drawn, name, partner, way):
    """The meetings of a pair, and its number of unlike values."""
    one, other = wished.item_of(name), drawn.item_of(partner)
    meetings = {(net, other.slots[pin]) for net, pin in zip(one.slots, way[0])}
    return frozenset(meetings), sum(worth != other.worths[leaf] for worth, leaf in zip(one.worths, way[1]))


def right(wished, drawn, price, paper, prices, decided=()):
    """Whether a paper, which has the form of one, is right: point 23 word by word, with decided pairs of id and pair."""
    known = dict(decided)
    partners = [pair[0] for pair in known.values() if pair is not None]
    left = [item for item in wished if item.id not in known]
    free = [item for item in drawn if item.id not in partners]
    if paper[0] == "bound":
        meetings = {(net, drawn.ports[name]) for name, net in wished.ports.items()}
        unlike = 0
        for name, pair in known.items():
            if pair is not None:
                more, many = pair_signs(wished, drawn, name, *pair)
                meetings, unlike = meetings | more, unlike + many
        if not all(one in paper[1] or other in paper[2] for one, other in meetings):
            return False
        shapes = {item.shape for item in [*left, *free]}
        many = {shape: sum(item.shape == shape for item in left) - sum(item.shape == shape for item in free)
                for shape in shapes}
        lost = sum(pair is None for pair in known.values()) + sum(max(count, 0) for count in many.values())
        total = prices.lost * lost + prices.surplus * sum(max(-count, 0) for count in many.values())
        total = total + prices.value * unlike
        return price <= total + prices.junction * (len(meetings) - len(paper[1]) - len(paper[2]))
    _, name, branches = paper
    if name not in [item.id for item in left]:
        return False
    needed = {None} | {(other.id, *pair_signs(wished, drawn, name, other.id, way)) for other in free
                       for way in ways(wished.item_of(name), other)}
    told = set()
    for partner, way, deeper in branches:
        pair = None if partner is None else (partner, way)
        if pair is not None:
            if partner not in [item.id for item in free]:
                return False
            if way not in ways(wished.item_of(name), drawn.item_of(partner)):
                return False
        told.add(None if pair is None else (partner, *pair_signs(wished, drawn, name, partner, way)))
        if not right(wished, drawn, price, deeper, prices, (*decided, (name, pair))):
            return False
    return needed <= told


def spoilt(chance, paper):
    """A paper with one thing changed, somewhere in it."""
    if paper[0] == "bound":
        side = chance.choice((1, 2))
        names = list(paper[side])
        if names and chance.random() < 0.6:
            names.pop(chance.randrange(len(names)))
        else:
            names.append(chance.choice("xyz"))
        return ("bound", tuple(names), paper[2]) if side == 1 else ("bound", paper[1], tuple(names))
    branches = list(paper[2])
    at = chance.randrange(len(branches))
    what = chance.random()
    if what < 0.2:
        branches.pop(at)
    elif what < 0.3:
        branches.append(branches[at])
    elif what < 0.4:
        chance.shuffle(branches)
    else:
        branches[at] = (*branches[at][:2], spoilt(chance, branches[at][2]))
    return (paper[0], paper[1], tuple(branches))


class LeastTest(Case):
    def test_plain_trial(self):
        chance = Random(1)
        for wished, drawn in pairs_of_forms(chance, 120):
            prices = random_prices(chance)
            least = least_differences(wished, drawn, prices)
            self.assertEqual(str(least.price), str(min(all_pairings(wished, drawn, prices),
                                                       key=lambda one: one.price.top * 1000 // one.price.bottom).price))
            paper = floor_paper(wished, drawn, least.price, prices)
            self.assertTrue(right(wished, drawn, least.price, paper, prices))
            self.assertIs(lets_floor(wished, drawn, least.price, paper, prices), True)
            self.assertIs(lets_floor(wished, drawn, least.price + STEP, paper, prices), False)
            self.assertIsNone(floor_paper(wished, drawn, least.price + STEP, prices))
            low = floor_paper(wished, drawn, least.price - STEP, prices)
            self.assertIs(lets_floor(wished, drawn, least.price - STEP, low, prices), True)

    def test_spoilt_papers(self):
        chance = Random(2)
        told = []
        for wished, drawn in pairs_of_forms(chance, 100, 60):
            prices = random_prices(chance)
            price = least_differences(wished, drawn, prices).price
            paper = floor_paper(wished, drawn, price, prices)
            for _ in range(12):
                wrong = spoilt(chance, paper)
                told.append(lets_floor(wished, drawn, price, wrong, prices))
                self.assertEqual(told[-1], right(wished, drawn, price, wrong, prices), wrong)
        self.assertGreater(min(told.count(True), told.count(False)), 100)

    def test_the_price_is_0_exactly_if_the_forms_are_alike(self):
        chance = Random(3)
        for wished, drawn in pairs_of_forms(chance, 60):
            self.assertEqual(least_differences(wished, drawn).price == 0, alike(wished, drawn))
            other = renamed(chance, wished)
            if weight(wished, other) <= 20000:
                least = least_differences(wished, other, Prices(lost=9, surplus=8, value=7, junction=6))
                self.assertEqual([str(least.price), least.matching() is not None], ["0", True])

    def test_a_pairing_is_told(self):
        wished = Form({"p": "x"}, [single(TWO, "x y", "t1", 3), single(TAP, "y", "t2")])
        drawn = Form({"p": "u"}, [single(TWO, "u v", "s1", 4), single(AMP, "u v w", "s2")])
        prices = Prices(lost=2, surplus=3, value=Ratio(1), junction=5)
        least = least_differences(wished, drawn, prices)
        self.assertIsInstance(least, Pairing)
        self.assertIs(least.wished, wished)
        self.assertIs(least.drawn, drawn)
        self.assertEqual([least.prices == prices, least.prices is prices], [True, False])
        self.assertEqual([least.paired(), least.lost_ids, least.surplus_ids], [["t1"], ("t2",), ("s2",)])
        self.assertEqual(str(least.price), "6")
        prices.lost = 99
        self.assertEqual(str(least.price), "6")

    def test_junctions_that_are_one_or_two(self):
        nets = ["a b", "b c", "c d"]
        wished = Form({}, [single(KINDS[at], told, f"t{at}") for at, told in enumerate(nets)])
        drawn = Form({}, [single(KINDS[at], told.replace("c", "b"), f"s{at}") for at, told in enumerate(nets)])
        self.assertEqual([str(least_differences(wished, drawn).price), str(least_differences(drawn, wished).price)],
                         ["1", "1"])

    def test_forms_with_ports_alone_and_empty_ones(self):
        one, other = Form({"p": "x", "q": "y"}, []), Form({"p": "z", "q": "z"}, [])
        told = least_differences(one, other)
        self.assertEqual([told.meetings, told.wrong, str(told.price), weight(one, other)],
                         [(("x", "z"), ("y", "z")), 1, "1", 1])
        self.assertTrue(lets_floor(one, other, 1, ("bound", (), ("z",))))
        self.assertIsNone(floor_paper(one, other, 2))
        self.assertEqual(floor_paper(Form({}, []), Form({}, []), 0), ("bound", (), ()))
        self.assertIsNone(floor_paper(Form({}, []), Form({}, []), 1))
        self.assertEqual(str(least_differences(Form({}, []), Form({}, [])).price), "0")

    def test_equal_results(self):
        chance = Random(4)
        for wished, drawn in pairs_of_forms(chance, 20):
            one, other = least_differences(wished, drawn), least_differences(wished, drawn, None)
            self.assertEqual([(name, one[name]) for name in one.paired()], [(name, other[name]) for name in other.paired()])
            self.assertEqual(floor_paper(wished, drawn, one.price), floor_paper(wished, drawn, one.price, Prices()))


class WeightTest(Case):
    def test_weight(self):
        amp, taps = [single(AMP, "x y z", "t")], [single(TAP, net, f"s{net}") for net in "xyz"]
        self.assertEqual(weight(Form({}, amp), Form({}, amp)), 3)
        self.assertEqual(weight(Form({}, amp + taps), Form({}, amp + taps)), 3 * 4 ** 3)
        self.assertEqual(weight(Form({}, amp), Form({}, taps)), 1)
        self.assertEqual(weight(Form({}, []), Form({}, amp)), 1)
        self.assertEqual(weight(Form({}, wires("ab bc")), Form({}, wires("ab"))), 9)
        self.assertEqual(weight(Form({}, [single(SIX, "a b c d e f", "t")]), Form({}, [single(SIX, "a a a a a a", "s")])), 721)

    def limits(self, wished, drawn):
        return [(least_differences, (wished, drawn)), (floor_paper, (wished, drawn, 1)),
                (lets_floor, (wished, drawn, 1, None))]

    def test_just_20000_and_above(self):
        many = [single(KINDS[at], "x y", f"t{at}") for at in range(5)]
        four = [single(KINDS[5], "x y", f"u{at}") for at in range(4)]
        wished, drawn = Form({}, many + four), Form({}, many + four)
        self.assertEqual([weight(wished, drawn), str(least_differences(wished, drawn).price)], [20000, "0"])
        paper = floor_paper(wished, drawn, 0)
        self.assertTrue(lets_floor(wished, drawn, 0, paper))
        # Just above: 3 * 7 * 953 has no such form, so 20002 = 2 * 73 * 137 is made of ways to 72 and to 136 drawn items.
        above = Form({}, [single(KINDS[0], "x y", "t0"), single(KINDS[1], "x y", "t1"), single(KINDS[2], "x y", "t2")])
        below = [single(KINDS[0], "x y", "s")] + [single(KINDS[1], "x y", f"u{at}") for at in range(72)]
        drawn = Form({}, below + [single(KINDS[2], "x y", f"v{at}") for at in range(136)])
        self.assertEqual(weight(above, drawn), 20002)
        for call, args in self.limits(above, drawn):
            self.fails(LimitExceeded, 20002, call, *args)

    def test_five_and_six_leaves(self):
        five = Leaf(WIRE, 1) & Leaf(WIRE, 2) & Leaf(WIRE, 3) & Leaf(WIRE, 4) & Leaf(WIRE, 5)
        six, seven = five & Leaf(WIRE, 6), five & Leaf(WIRE, 6) & Leaf(WIRE, 6)
        form = Form({}, [branch(five, "x y", "t")])
        self.assertEqual(weight(form, form), 241)
        other = Form({}, [branch(five, "u v", "s1"), single(TAP, "u", "s2")])
        self.assertEqual(str(least_differences(form, other).price), "1")
        # The greatest number comes ahead of the weight, and also if the other form alone has it.
        heavy = Form({}, [branch(six, "x y", "t1"), branch(seven, "x y", "t2"), *[single(SIX, "a b c d e f", f"t{at}")
                                                                                 for at in range(3, 9)]])
        for pair in ((heavy, heavy), (Form({}, []), heavy), (heavy, Form({}, []))):
            self.fails(LimitExceeded, 7, weight, *pair)
            for call, args in self.limits(*pair):
                self.fails(LimitExceeded, 7, call, *args)

    def test_unlike_port_names_come_first(self):
        six = branch(Leaf(WIRE, 1) & Leaf(WIRE, 2) & Leaf(WIRE, 3) & Leaf(WIRE, 4) & Leaf(WIRE, 5) & Leaf(WIRE, 6), "x y", "t")
        wished = Form({"p": "x"}, [six])
        for drawn in (Form({}, [six]), Form({"q": "x"}, [six]), Form({"p": "x", "q": "x"}, [six])):
            self.fails(InvalidForm, drawn, weight, wished, drawn)
            for call, args in self.limits(wished, drawn):
                self.fails(InvalidForm, drawn, call, *args)

    def test_great_weights(self):
        chance = Random(5)
        for nets in ("abcd", "abcdefgh"):
            forms = [Form({}, [single(KINDS[at], f"{chance.choice(nets)} {chance.choice(nets)}", f"t{at}",
                                      chance.choice((1, 2))) for at in range(14)]) for _ in range(2)]
            prices = Prices(junction=3)
            price = least_differences(*forms, prices).price
            self.assertTrue(lets_floor(*forms, price, floor_paper(*forms, price, prices), prices))
            self.assertIsNone(floor_paper(*forms, price + STEP, prices))


class FloorTest(Case):
    """Papers by hand: an amp and a two on each side, all of the amp's pins wrong, one of the two's."""

    def setUp(self):
        self.wished = Form({"p": "x"}, [single(AMP, "x y z", "a"), single(TWO, "x y", "t", 3)])
        self.drawn = Form({"p": "u"}, [single(AMP, "v v u", "b"), single(TWO, "u v", "s", 4)])

    def lets(self, price, paper, prices=None):
        return lets_floor(self.wished, self.drawn, price, paper, prices)

    def test_bounds(self):
        fits = ("bound", ("x",), ())
        self.assertIs(self.lets(0, fits), True)
        self.assertIs(self.lets(0, ("bound", (), ("u",))), True)
        self.assertIs(self.lets(-3, ("bound", ("x",), ("u",))), True)
        for price, wrong in ((1, fits), (Ratio(1, 60), fits), (0, ("bound", (), ())), (0, ("bound", ("u",), ())),
                             (0, ("bound", (), ("x",))), (0, ("bound", ("x",), ("u",))), (0, ("bound", ("x", "x"), ())),
                             (0, ("bound", ["x"], ())), (0, ["bound", ("x",), ()]), (0, ("bound", ("x",))),
                             (0, ("bound", ("x",), (), ())), (0, ("bounds", ("x",), ())), (0, ("bound", ("x", 1), ())),
                             (0, ("bound", "x", ())), (0, ("bound", ("x",), None)), (0, (True, ("x",), ())),
                             (-9, ("bound", ("x", None), ())), (-9, ("bound", ("x",), (True,)))):
            self.assertIs(self.lets(price, wrong), False, wrong)
        self.assertIs(self.lets(-1, ("bound", ("x", "x"), ())), True)
        self.assertIs(self.lets(-1, ("bound", ("x", "q"), ())), True)
        self.assertIs(self.lets(-2, ("bound", ("x", "q"), ("u",))), True)
        for wrong in (*ODD, 1, "bound", ("bound",), ()):
            self.assertIs(self.lets(0, wrong), False)

    def branches(self):
        """The branches for the two, under a price of 1."""
        touch = ("bound", ("x", "y"), ())
        return [(None, None, ("bound", ("x",), ())), ("s", ((0, 1), (0,)), touch), ("s", ((1, 0), (0,)), touch)]

    def test_items(self):
        both = self.branches()
        for right_ones in (both, both[::-1], both + both, [both[1], *both]):
            self.assertIs(self.lets(1, ("item", "t", tuple(right_ones))), True)
        for left_out in range(3):
            some = both[:left_out] + both[left_out + 1:]
            self.assertIs(self.lets(1, ("item", "t", tuple(some))), False)
            self.assertIs(self.lets(1, ("item", "t", tuple([*both, (*both[left_out][:2], ("bound", (), ()))]))), False)
        for wrong in (("item", "t", both), ["item", "t", tuple(both)], ("items", "t", tuple(both)), ("item", "t"),
                      ("item", "t", tuple(both), ()), ("item", "a", tuple(both)), ("item", "s", tuple(both)),
                      ("item", None, tuple(both)), ("item", ["t"], tuple(both)), ("item", "t", ()), ("item", "t", None),
                      ("item", "t", (*both, ("b", ((0, 1), (0,)), both[1][2]))), ("item", "t", (*both, 3)),
                      ("item", "t", (*both, list(both[0]))), ("item", "t", (*both, both[0][:2])),
                      ("item", "t", (*both, (*both[0], 1)))):
            self.assertIs(self.lets(1, wrong), False, wrong)

    def test_wrong_ways(self):
        both = self.branches()
        for wrong in (((False, True), (0,)), ((0, True), (0,)), ((0, 1), (False,)), ((0, 1),), ((0, 1), (0,), ()), [(0, 1), (0,)],
                      ([0, 1], (0,)), ((0, 1), [0]), ((0, 0), (0,)), ((0, 1), (1,)), ((0, 1, 2), (0,)), None, "01", 3):
            self.assertIs(self.lets(1, ("item", "t", (*both, ("s", wrong, both[1][2])))), False, wrong)
        for partner in (None, 1, ["s"], "u", "a", True):
            self.assertIs(self.lets(1, ("item", "t", (*both, (partner, ((0, 1), (0,)), both[1][2])))), False)
        self.assertIs(self.lets(1, ("item", "t", (*both, ("s", None, both[1][2])))), False)

    def test_a_way_stands_for_another_one(self):
        # Both of the amp's ways to one with one net at all pins have the same meetings.
        wished, drawn = Form({}, [single(AMP, "x y z", "a")]), Form({}, [single(AMP, "v v u", "b")])
        left = (None, None, ("bound", (), ()))
        for way in ways(wished.entries[0], drawn.entries[0]):
            paper = ("item", "a", (left, ("b", way, ("bound", (), ("u", "v")))))
            self.assertIs(lets_floor(wished, drawn, 1, paper), True)
        self.assertIs(lets_floor(wished, drawn, 1, ("item", "a", (left,))), False)
        unlike = Form({}, [branch(Leaf(WIRE, 1) & Leaf(WIRE, 2), "x y", "a")]), Form({}, [branch(
            Leaf(WIRE, 2) & Leaf(WIRE, 3), "u v", "b")])
        told = ways(unlike[0].entries[0], unlike[1].entries[0])
        branches = [("b", way, ("bound", ("x", "y"), ())) for way in told]
        left = (None, None, ("bound", (), ()))
        # Values 1, 2 stand for 2, 3 with two unlike ones, or for 3, 2 with one: neither is like the other.
        self.assertIs(lets_floor(*unlike, 1, ("item", "a", (left, *branches))), True)
        for way in told:
            some = [row for row in branches if row[1][1] != way[1]]
            self.assertIs(lets_floor(*unlike, 1, ("item", "a", (left, *some))), False)

    def test_the_order_is_free(self):
        deep = {}
        price = least_differences(self.wished, self.drawn).price
        for first, second in (("a", "t"), ("t", "a")):
            deep[first] = self.paper_for([first, second], {})
            self.assertIs(self.lets(price, deep[first]), True)
            self.assertIs(self.lets(price + STEP, deep[first]), False)
        self.assertNotEqual(deep["a"], deep["t"])

    def paper_for(self, order, known):
        """The paper that decides all items in this order."""
        if not order:
            pairing = Pairing(self.wished, self.drawn)
            for name, pair in known.items():
                if pair is not None:
                    pairing[name] = pair
            return ("bound", *touching_set(list(pairing.meetings)))
        name, *rest = order
        item = self.wished.item_of(name)
        branches = [(None, None, self.paper_for(rest, {**known, name: None}))]
        for other in self.drawn:
            branches += [(other.id, way, self.paper_for(rest, {**known, name: (other.id, way)}))
                         for way in ways(item, other)]
        return ("item", name, tuple(branches))

    def test_decided_items_and_partners(self):
        wished = Form({}, [single(TAP, "x", "t1"), single(TAP, "x", "t2")])
        drawn = Form({}, [single(TAP, "u", "s1"), single(TAP, "v", "s2")])
        way, pair = ((0,), (0,)), ("bound", (), ("u", "v"))
        one = ("bound", (), ("u",))
        left = ("item", "t2", ((None, None, ("bound", (), ())), ("s1", way, one), ("s2", way, ("bound", (), ("v",)))))
        behind = {"s1": ("item", "t2", ((None, None, one), ("s2", way, ("bound", ("x",), ())))),
                  "s2": ("item", "t2", ((None, None, ("bound", (), ("v",))), ("s1", way, ("bound", ("x",), ()))))}
        right_paper = ("item", "t1", ((None, None, left), ("s1", way, behind["s1"]), ("s2", way, behind["s2"])))
        self.assertIs(lets_floor(wished, drawn, 1, right_paper), True)
        self.assertIs(lets_floor(wished, drawn, 2, right_paper), False)
        taken = ("item", "t2", (*behind["s1"][2], ("s1", way, pair)))
        again = ("item", "t1", ((None, None, one), ("s2", way, ("bound", ("x",), ()))))
        for wrong in (taken, again):
            paper = ("item", "t1", ((None, None, left), ("s1", way, wrong), ("s2", way, behind["s2"])))
            self.assertIs(lets_floor(wished, drawn, 1, paper), False)
        self.assertIs(lets_floor(wished, drawn, 1, ("item", "t1", ((None, None, left), ("s1", way, behind["s1"])))), False)

    def test_values_of_arguments_stay(self):
        prices = Prices(lost=2)
        before = (self.wished.record, self.drawn.record)
        price = least_differences(self.wished, self.drawn, prices).price
        floor_paper(self.wished, self.drawn, price, prices)
        self.assertEqual((self.wished.record, self.drawn.record), before)
        self.assertEqual(prices, Prices(lost=2))
