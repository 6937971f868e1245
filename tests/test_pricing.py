"""Points 3 (c), 22 and the interface section pricing."""

from collections import Counter
from fractions import Fraction
from itertools import permutations
from random import Random

from wishedwires.errors import InvalidForm, InvalidPrices, InvalidWay, LimitExceeded, NameInUse, UnknownName
from wishedwires.expressions import Leaf
from wishedwires.forms import Form
from wishedwires.matching import Matching, alike
from wishedwires.pricing import Pairing, Prices
from wishedwires.ratios import Ratio
from wishedwires.refuting import lets_matching
from wishedwires.ways import ways
from tests.helper import (AMP, ARROW, GATE, ODD, TAP, TWO, WIRE, Case, branch, random_form, renamed, single, wires)

NAMES = ("lost", "surplus", "value", "junction")
WRONG_PRICES = (*ODD, "1", "lost", 0, -1, Ratio(1, 2), Ratio(99, 100), Ratio(-3), Ratio(0))


def four(prices):
    return [prices.lost, prices.surplus, prices.value, prices.junction]


class PricesTest(Case):
    def test_making(self):
        self.assertEqual(four(Prices()), [1, 1, 1, 1])
        told = four(Prices(lost=Ratio(3, 2), junction=1, value=2))
        self.assertEqual([told, [type(price) for price in told]], [[Ratio(3, 2), 1, 2, 1], [Ratio] * 4])
        with self.assertRaises(TypeError):
            Prices(1)

    def test_wrong_prices(self):
        for wrong in WRONG_PRICES:
            for at, name in enumerate(NAMES):
                self.fails(InvalidPrices, name, Prices, **{name: wrong})
                self.fails(InvalidPrices, name, Prices, **dict.fromkeys(reversed(NAMES[at:]), wrong))
                prices = Prices(lost=2, surplus=3, value=4, junction=5)
                self.fails(InvalidPrices, name, setattr, prices, name, wrong)
                self.fails(InvalidPrices, name, prices.change, name, wrong)
                self.assertEqual(four(prices), [2, 3, 4, 5])

    def test_setting(self):
        for at, name in enumerate(NAMES):
            for price in (1, 7, Ratio(1), Ratio(5, 4)):
                prices, other = Prices(lost=2, surplus=3, value=4, junction=5), Prices(lost=2, surplus=3, value=4, junction=5)
                setattr(prices, name, price)
                other.change(name, price)
                right = [2, 3, 4, 5]
                right[at] = price
                self.assertEqual([four(prices), four(other), type(getattr(prices, name))], [right, right, Ratio])

    def test_other_names(self):
        prices = Prices()
        for wrong in (*ODD, "", "Lost", "price", "_lost", "copied", 3, ("lost",), "values"):
            self.fails(InvalidPrices, wrong, prices.change, wrong, 3)
            self.fails(InvalidPrices, wrong, prices.change, wrong, 0)
        self.assertEqual(four(prices), [1] * 4)

    def test_copied_and_equal(self):
        prices = Prices(lost=2, value=Ratio(3, 2))
        twin = prices.copied()
        self.assertTrue(prices == twin and not prices != twin)
        for name in NAMES:
            other = prices.copied()
            other.change(name, 9)
            self.assertFalse(prices == other)
            self.assertTrue(prices != other)
        twin.lost = 5
        self.assertEqual([four(prices), four(twin)], [[2, 1, Ratio(3, 2), 1], [5, 1, Ratio(3, 2), 1]])
        for other in (*ODD, 1, "prices", (2, 1, Ratio(3, 2), 1)):
            self.assertFalse(prices == other)


def sample():
    wished = Form({"p": "a", "q": "b"}, [single(TWO, "a b", "t1"), single(TWO, "b c", "t2", 2), single(AMP, "a b c", "t3"),
                                         branch(Leaf(GATE, 1, "c") & Leaf(GATE, 2, "a"), "a b", "t4")])
    drawn = Form({"q": "y", "p": "x"}, [single(TWO, "x y", "u1", 2), single(TWO, "x z", "u2", 2), single(TAP, "z", "u3"),
                                        branch(Leaf(GATE, 2, "z") & Leaf(GATE, 2, "x"), "y x", "u4")])
    return wished, drawn


def told(pairing):
    return ({name: pairing[name] for name in pairing.paired()}, pairing.meetings, pairing.kept, pairing.wrong, pairing.lost_ids,
            pairing.surplus_ids, pairing.revalued, pairing.price, pairing.floor)


def most_apart(pairs):
    """How many of some pairs can be apart, trying to leave each first name out or to keep it with each mate."""
    if not pairs:
        return 0
    first = pairs[0][0]
    rest = [pair for pair in pairs if pair[0] != first]
    return max([most_apart(rest)] + [1 + most_apart([pair for pair in rest if pair[1] != other])
                                     for one, other in pairs if one == first])


def by_the_words(wished, drawn, pairs, prices):
    """Meetings, wrong, lost, surplus, revalued, price and floor, for pairs as a dict."""
    meetings = {(wished.ports[name], drawn.ports[name]) for name in wished.ports}
    revalued = []
    for name, (partner, (pins, leaves)) in pairs.items():
        item, other = wished.item_of(name), drawn.item_of(partner)
        meetings |= {(net, other.slots[pin]) for net, pin in zip(item.slots, pins)}
        revalued += [(name, at) for at, worth in enumerate(item.worths) if worth != other.worths[leaves[at]]]
    wrong = len(meetings) - most_apart(sorted(meetings))
    lost = sorted(item.id for item in wished if item.id not in pairs)
    surplus = sorted(item.id for item in drawn if item.id not in [partner for partner, _ in pairs.values()])
    shapes = [Counter(item.shape for item in form) for form in (wished, drawn)]
    told_prices = [Fraction(price.top, price.bottom) for price in four(prices)]
    rest = told_prices[2] * len(revalued) + told_prices[3] * wrong
    price = told_prices[0] * len(lost) + told_prices[1] * len(surplus) + rest
    floor = told_prices[0] * sum((shapes[0] - shapes[1]).values()) + told_prices[1] * sum((shapes[1] - shapes[0]).values()) + rest
    return tuple(sorted(meetings)), wrong, tuple(lost), tuple(surplus), tuple(sorted(revalued)), price, floor


class PairingTest(Case):
    def check(self, pairing, pairs):
        told_now = [pairing.meetings, pairing.wrong, pairing.lost_ids, pairing.surplus_ids, pairing.revalued,
                    *[Fraction(told_price.top, told_price.bottom) for told_price in (pairing.price, pairing.floor)]]
        self.assertEqual(told_now, list(by_the_words(pairing.wished, pairing.drawn, pairs, pairing.prices)))
        self.assertEqual([type(pairing.price), type(pairing.floor)], [Ratio, Ratio])
        kept = pairing.kept
        self.assertTrue(set(kept) <= set(pairing.meetings) and len({one for one, _ in kept}) == len({two for _, two in kept}))
        self.assertEqual([len(kept), kept], [len(pairing.meetings) - pairing.wrong, tuple(sorted(set(kept)))])
        self.assertEqual([pairing.paired(), len(pairing)], [sorted(pairs), len(pairs)])
        self.assertEqual({name: pairing[name] for name in pairs}, pairs)

    def test_random(self):
        chance = Random(61)
        for _ in range(150):
            wished = random_form(chance)
            drawn = renamed(chance, wished) if chance.random() < 0.5 else random_form(chance)
            drawn = Form({name: chance.choice("vwxyz") for name in wished.ports}, drawn.entries)
            prices = Prices(lost=Ratio(3, 2), surplus=5, value=7, junction=Ratio(11, 10))
            pairing, pairs = Pairing(wished, drawn, prices), {}
            self.check(pairing, pairs)
            for _ in range(8):
                name, floor = chance.choice([item.id for item in wished] or ["none"]), pairing.floor
                partner = chance.choice([item.id for item in drawn] or ["none"])
                known = name != "none" and partner != "none"
                way = chance.choice(ways(wished.item_of(name), drawn.item_of(partner)) or [None]) if known else None
                if name in pairs and chance.random() < 0.3:
                    pairs.pop(name)
                    pairing.leave(name)
                elif way and partner not in [other for there, (other, _) in pairs.items() if there != name]:
                    added = name not in pairs
                    pairs[name] = (partner, way)
                    pairing[name] = (partner, way)
                    self.assertTrue(pairing.floor >= floor or not added)
                self.check(pairing, pairs)

    def test_least_price_is_0_exactly_if_alike(self):
        chance = Random(62)
        seen = Counter()
        for _ in range(160):
            wished = random_form(chance, "wx", 2)
            drawn = renamed(chance, wished) if chance.random() < 0.5 else random_form(chance, "wx", 2)
            if set(wished.ports) != set(drawn.ports):
                self.fails(InvalidForm, drawn, Pairing, wished, drawn)
                continue
            matchings = [pairing.matching() for pairing in all_pairings(wished, drawn)]
            for pairing, m in zip(all_pairings(wished, drawn), matchings):
                self.assertEqual(m is not None, pairing.price == 0)
                self.assertTrue(pairing.floor <= pairing.price)
                if m is not None:
                    self.assertTrue(lets_matching(wished, drawn, m.net_map(), m.id_map()))
                    self.assertEqual(m.id_map(), {name: pairing[name][0] for name in pairing.paired()})
            self.assertEqual(any(m is not None for m in matchings), alike(wished, drawn))
            seen[alike(wished, drawn)] += 1
        self.assertTrue(min(seen[True], seen[False]) > 10, seen)

    def test_no_pairing_with_all_pairs_costs_less_than_the_floor(self):
        wished = Form({"p": "a"}, [single(TWO, "a b", "t1"), single(TWO, "b c", "t2", 2), single(TAP, "c", "t3")])
        drawn = Form({"p": "x"}, [single(TWO, "y x", "u1"), single(TWO, "x z", "u2", 3), single(TWO, "z z", "u3")])
        pairings = list(all_pairings(wished, drawn))
        pairs = [{(name, pairing[name]) for name in pairing.paired()} for pairing in pairings]
        for one, mine in zip(pairings, pairs):
            for other, theirs in zip(pairings, pairs):
                if mine <= theirs:
                    self.assertTrue(one.floor <= other.price and one.floor <= other.floor)

    def test_ports_alone(self):
        pairing = Pairing(Form({"p": "x", "q": "y"}, []), Form({"p": "z", "q": "z"}, []))
        self.assertEqual([pairing.meetings, len(pairing.kept), pairing.wrong, pairing.price, pairing.floor],
                         [(("x", "z"), ("y", "z")), 1, 1, 1, 1])
        self.assertIsNone(pairing.matching())
        pairing = Pairing(Form({"q": "y", "p": "x", "r": "x"}, []), Form({"r": "v", "q": "w", "p": "v"}, []))
        self.assertEqual([pairing.meetings, pairing.price], [(("x", "v"), ("y", "w")), 0])
        self.assertEqual(pairing.matching(), Matching({"x": "v", "y": "w"}, {}))
        self.assertEqual(Pairing(Form({}, []), Form({}, [])).matching(), Matching({}, {}))

    def test_ports(self):
        wished = Form({"p": "x"}, [])
        for ports in ({}, {"q": "x"}, {"p": "x", "q": "x"}):
            drawn = Form(ports, [])
            self.fails(InvalidForm, drawn, Pairing, wished, drawn)
            self.fails(InvalidForm, wished, Pairing, drawn, wished, 3)

    def test_what_is_kept(self):
        wished, drawn = sample()
        prices = Prices(junction=3)
        pairing = Pairing(wished, drawn, prices)
        self.assertEqual([pairing.wished is wished, pairing.drawn is drawn, pairing.prices == prices], [True, True, True])
        self.assertEqual([len(pairing), pairing.paired(), pairing.lost_ids, pairing.surplus_ids, pairing.revalued],
                         [0, [], ("t1", "t2", "t3", "t4"), ("u1", "u2", "u3", "u4"), ()])
        self.assertEqual([pairing.price, pairing.floor], [8, 2])
        prices.lost = 100
        self.assertEqual(pairing.price, 8)
        pairing.prices.lost = 10
        pairing.prices.change("surplus", 2)
        self.assertEqual([pairing.price, pairing.floor, prices.lost, prices.surplus], [48, 12, 100, 1])
        self.assertEqual(Pairing(wished, drawn).prices, Prices())
        self.assertEqual(Pairing(wished, drawn, None).prices, Prices())

    def test_pairs(self):
        wished, drawn = sample()
        pairing = Pairing(wished, drawn)
        pairing["t1"] = ("u2", ((1, 0), (0,)))
        self.assertEqual([pairing["t1"], "t1" in pairing, "t2" in pairing, len(pairing)], [("u2", ((1, 0), (0,))), True, False, 1])
        self.assertEqual([pairing.meetings, pairing.revalued], [(("a", "x"), ("a", "z"), ("b", "x"), ("b", "y")), (("t1", 0),)])
        self.assertEqual([pairing.wrong, pairing.price], [4 - most_apart(list(pairing.meetings)), 6 + 1 + pairing.wrong])
        pairing["t1"] = ("u2", ((0, 1), (0,)))
        pairing["t1"] = ("u1", ((0, 1), (0,)))
        pairing["t2"] = ("u2", ((0, 1), (0,)))
        self.assertEqual([pairing.paired(), pairing.revalued, pairing.surplus_ids], [["t1", "t2"], (("t1", 0),), ("u3", "u4")])
        self.fails(NameInUse, "u2", pairing.__setitem__, "t1", ("u2", ((0, 1), (0,))))
        pairing.leave("t2")
        pairing["t1"] = ("u2", ((0, 1), (0,)))
        self.assertEqual([pairing.paired(), pairing["t1"][0], pairing.surplus_ids], [["t1"], "u2", ("u1", "u3", "u4")])
        pairing.paired().clear()
        self.assertEqual(len(pairing), 1)

    def test_wrong_pairs(self):
        wished, drawn = sample()
        pairing = Pairing(wished, drawn)
        pairing["t1"] = ("u1", ((0, 1), (0,)))
        before, way = told(pairing), ((0, 1), (0,))
        for wrong in (*ODD, "t5", "u1", "a", 3):
            self.keeps_pairs(pairing, UnknownName, wrong, wrong, 3)
            self.keeps_pairs(pairing, UnknownName, wrong, wrong, ("none", None))
        for wrong in [value for value in ODD if value != ("a",)] + [("u2",), ("u2", way, 1), ["u2", way], "u2", "ab", 3]:
            self.keeps_pairs(pairing, InvalidWay, "t2", "t2", wrong)
        for wrong in (*ODD, "t1", "none", 3):
            self.keeps_pairs(pairing, UnknownName, wrong, "t2", (wrong, None))
        self.keeps_pairs(pairing, NameInUse, "u1", "t2", ("u1", way))
        self.keeps_pairs(pairing, NameInUse, "u1", "t3", ("u1", None))
        for wrong in (*ODD, ((0, 1),), ((0, 1), (0,), ()), ([0, 1], (0,)), ((0, 1), [0]), [(0, 1), (0,)], ((0, 0), (0,)), ((0,), (0,)),
                      ((0, 1), ()), ((0, 1), (1,)), ((False, True), (0,)), ((0, 1), (False,)), ((0, 1, 2), (0,)), "way", 3, ((), ()),
                      ((0, "1"), (0,)), ((0, 1), 0), ((0, None), (0,))):
            self.keeps_pairs(pairing, InvalidWay, "t2", "t2", ("u2", wrong))
            self.keeps_pairs(pairing, InvalidWay, "t1", "t1", ("u1", wrong))
        self.keeps_pairs(pairing, InvalidWay, "t3", "t3", ("u2", way))
        self.keeps_pairs(pairing, InvalidWay, "t3", "t3", ("u3", ((0, 1, 2), (0,))))
        self.assertEqual(told(pairing), before)

    def keeps_pairs(self, pairing, error, given, name, pair):
        before = told(pairing)
        self.fails(error, given, pairing.__setitem__, name, pair)
        self.assertEqual(told(pairing), before)

    def test_names_of_parts_are_no_ids(self):
        form = Form({}, [single(TAP, "x", "t1 t2")])
        pairing = Pairing(form, form)
        self.keeps_pairs(pairing, UnknownName, "t2", "t2", ("t1", ((0,), (0,))))
        self.keeps_pairs(pairing, UnknownName, "t2", "t1", ("t2", ((0,), (0,))))

    def test_many_leaves(self):
        six = Leaf(WIRE, 1)
        for _ in range(5):
            six = six & Leaf(WIRE, 1)
        wished, drawn = Form({}, [branch(six, "x y", "t"), single(TAP, "x", "u")]), Form({}, [branch(six & six, "x y", "t"),
                                                                                            single(TAP, "x", "u")])
        pairing = Pairing(wished, drawn)
        self.keeps_pairs(pairing, LimitExceeded, 12, "t", ("t", None))
        self.keeps_pairs(pairing, LimitExceeded, 6, "t", ("u", ((0,), (0,))))
        pairing["u"] = ("u", ((0,), (0,)))
        self.assertEqual(pairing.price, 2)

    def test_asking(self):
        wished, drawn = sample()
        pairing = Pairing(wished, drawn)
        pairing["t1"] = ("u1", ((0, 1), (0,)))
        for wrong in (*ODD, "t2", "u1", "none", 3):
            self.fails(UnknownName, wrong, lambda: pairing[wrong])
            self.fails(UnknownName, wrong, pairing.leave, wrong)
            self.assertNotIn(wrong, pairing)
        self.assertEqual(len(pairing), 1)
        with self.assertRaises(TypeError):
            iter(pairing)
        with self.assertRaises(TypeError):
            list(pairing)

    def test_kept_stays(self):
        wished = Form({"p": "a", "q": "b", "r": "c"}, [single(TAP, "a", "t")])
        drawn = Form({"p": "x", "q": "x", "r": "x"}, [single(TAP, "y", "u")])
        pairing = Pairing(wished, drawn)
        kept = pairing.kept
        pairing.prices.junction = 5
        self.fails(InvalidWay, "t", pairing.__setitem__, "t", ("u", None))
        self.assertEqual([pairing.kept, pairing.copied().kept, Pairing(wished, drawn).kept], [kept] * 3)
        pairing["t"] = ("u", ((0,), (0,)))
        self.assertEqual([len(pairing.meetings), len(pairing.kept), pairing.wrong, pairing.price], [4, 2, 2, 10])
        pairing.leave("t")
        self.assertEqual(pairing.kept, kept)

    def test_copied(self):
        wished, drawn = sample()
        pairing = Pairing(wished, drawn, Prices(value=4))
        pairing["t4"] = ("u4", ways(wished.item_of("t4"), drawn.item_of("u4"))[0])
        before, twin = told(pairing), pairing.copied()
        self.assertEqual([told(twin), twin.prices, twin.wished is wished, twin.drawn is drawn], [before, pairing.prices, True, True])
        twin["t1"] = ("u1", ((0, 1), (0,)))
        twin.leave("t4")
        twin.prices.value = 9
        self.assertEqual([told(pairing), pairing.prices.value, twin.paired()], [before, 4, ["t1"]])
        pairing.leave("t4")
        self.assertEqual(twin.paired(), ["t1"])

    def test_values_of_leaves(self):
        wished = Form({}, [branch(Leaf(GATE, 1, "u") & Leaf(GATE, 2, "v") & Leaf(ARROW, 3), "x y", "t")])
        drawn = Form({}, [branch(Leaf(GATE, 2, "u") & Leaf(GATE, 5, "v") & Leaf(ARROW, 3), "x y", "t")])
        item, other = wished.entries[0], drawn.entries[0]
        numbers = Counter()
        for way in ways(item, other):
            pairing = Pairing(wished, drawn, Prices(value=3))
            pairing["t"] = ("t", way)
            self.check(pairing, {"t": ("t", way)})
            numbers[len(pairing.revalued)] += 1
        self.assertEqual(numbers, {1: 1, 2: 1})

    def test_a_matching(self):
        wished = Form({"p": "a"}, wires("ab bc ca"))
        drawn = Form({"p": "x"}, wires("yx zy zx", "v"))
        pairing = Pairing(wished, drawn)
        for name, partner in (("w00", "v00"), ("w01", "v01"), ("w02", "v02")):
            self.assertIsNone(pairing.matching())
            item, other = wished.item_of(name), drawn.item_of(partner)
            places = {"a": "x", "b": "y", "c": "z"}
            pairing[name] = (partner, next(way for way in ways(item, other) if [other.slots[pin] for pin in way[0]] == [
                places[net] for net in item.slots]))
        self.assertEqual([pairing.price, pairing.floor, pairing.wrong], [0, 0, 0])
        self.assertEqual(pairing.matching(), Matching({"a": "x", "b": "y", "c": "z"}, {"w00": "v00", "w01": "v01", "w02": "v02"}))


def all_pairings(wished, drawn):
    """All pairings of two small forms."""
    ids, there = [item.id for item in wished], [item.id for item in drawn]
    for partners in sorted(set(permutations(there + [""] * len(ids), len(ids)))):
        rows = [{}]
        for name, partner in zip(ids, partners):
            if partner:
                told_ways = ways(wished.item_of(name), drawn.item_of(partner))
                rows = [{**row, name: (partner, way)} for row in rows for way in told_ways]
        for row in rows:
            pairing = Pairing(wished, drawn)
            for name, pair in row.items():
                pairing[name] = pair
            yield pairing
