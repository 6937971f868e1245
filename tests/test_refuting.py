"""Points 19 and 20 and the interface section refuting; a second checker, by the words of point 20, stands here."""

from collections import Counter
from itertools import permutations
from random import Random
from time import process_time

from wishedwires.colours import first_colours, rounds
from wishedwires.errors import LimitExceeded
from wishedwires.expressions import Leaf
from wishedwires.forms import Form
from wishedwires.kinds import PinKind
from wishedwires.refuting import lets_matching, lets_refutation, refutation, refuted_without_names
from tests.helper import (ARROW, GATE, ODD, TAP, TWO, WIRE, Case, all_matchings, branch, marks, random_form, renamed, ring,
                          single, told_print, touch, wires)

SIX = PinKind("six", *"abcdef", swaps=(tuple("abcdef"),))


def rings(*sizes):
    """A form of rings of equal wires."""
    nets, items = "abcdefghijklmnopqrstuvwx", []
    for at, size in enumerate(sizes):
        items += ring(nets[sum(sizes[:at]):][:size], f"w{at}n")
    return Form({}, items)


def integer(value):
    return isinstance(value, int) and not isinstance(value, bool)


def right(one, other, paper, pairs=()):
    """Whether a paper that has the form of one is right, pair of nets by pair of nets."""
    if paper[0] == "ports":
        return (paper[1] in one.ports) != (paper[1] in other.ports)
    if paper[0] == "try":
        _, net, branches = paper
        free = [there for there in other.all_nets() if there not in [there for _, there in pairs]]
        if net not in one.all_nets() or net in [there for there, _ in pairs]:
            return False
        return sorted(there for there, _ in branches) == free and all(
            right(one, other, told, (*pairs, (net, there))) for there, told in branches)
    _, colourings, told = paper
    if not colourings or not all(right_colours(one, other, colours) for colours in colourings):
        return False
    signs = [marks(one, 0, pairs), marks(other, 1, pairs)]
    for colours in colourings:
        for net in one.all_nets():
            for there in other.all_nets():
                if signs[0][net] == signs[1][there] and colours[0][net] != colours[1][there]:
                    return False
        signs = [{net: (side[net], Counter(touch(item, net, side) for item in form if net in item.slots))
                  for net in form.all_nets()} for form, side in zip((one, other), colours)]
    return told in all_differences(one, other, colourings[-1])


def right_colours(one, other, colours):
    return all(sorted(side) == form.all_nets() and all(map(integer, side.values())) for form, side in
               zip((one, other), colours))


def all_differences(one, other, colours):
    counts = [Counter(side.values()) for side in colours]
    prints = [{item.id: told_print(item, colours[side]) for item in form} for side, form in enumerate((one, other))]
    shown = [Counter(side.values()) for side in prints]
    return [("net", colour) for colour in counts[0] | counts[1] if counts[0][colour] != counts[1][colour]] + [
        ("item", side, name) for side in (0, 1) for name in prints[side]
        if shown[0][prints[side][name]] != shown[1][prints[side][name]]]


def size(paper):
    return 1 if paper[0] != "try" else 1 + sum(size(told) for _, told in paper[2])


def spoiled(chance, one, other, paper):
    """A paper with some small change, which may leave it right."""
    if paper[0] == "ports":
        return ("ports", chance.choice("pqr"))
    if paper[0] == "try":
        branches = list(paper[2])
        if branches and chance.random() < 0.7:
            at = chance.randrange(len(branches))
            branches[at] = (branches[at][0], spoiled(chance, one, other, branches[at][1]))
            return ("try", paper[1], tuple(branches))
        chance.shuffle(branches)
        return chance.choice((("try", chance.choice(one.all_nets()), paper[2]), ("try", paper[1], tuple(branches[1:])),
                              ("try", paper[1], tuple(branches + branches[:1])), ("try", paper[1], tuple(branches))))
    _, colourings, told = paper
    made = [tuple(dict(side) for side in colours) for colours in colourings]
    choice = chance.randrange(5) if made else 5
    if choice == 0:
        made = made[:chance.randint(0, len(made))]
    elif choice == 1:
        made = [made[0], *made]
    elif choice == 2:
        side = chance.choice(chance.choice(made))
        if side:
            net = chance.choice(list(side))
            side[net] = chance.choice((side[net] + 1, 0, 1, True, -5))
    elif choice == 3:
        side = chance.choice(chance.choice(made))
        side.pop(next(iter(side), None), None) if chance.random() < 0.5 else side.update({"new": 0})
    if chance.random() < 0.5:
        told = chance.choice((("net", chance.randint(-1, 4)), ("item", chance.randint(0, 1), f"t{chance.randint(0, 4)}"), told))
    return ("rounds", tuple(made), told)


class RefutationTest(Case):
    def check(self, one, other):
        paper = refutation(one, other)
        self.assertTrue(right(one, other, paper))
        self.assertIs(lets_refutation(one, other, paper), True)
        self.assertEqual(refutation(one, other), paper)
        self.check_rounds(one, other, paper, [])
        return paper

    def check_rounds(self, one, other, paper, pairs):
        """The colourings that the program makes are those of the rounds, with their numbers [16]."""
        if paper[0] == "rounds":
            self.assertEqual(list(paper[1]), list(rounds(one, other, pairs))[:len(paper[1])])
        for there, told in paper[2] if paper[0] == "try" else ():
            self.check_rounds(one, other, told, [*pairs, (paper[1], there)])

    def test_plain_trial(self):
        chance = Random(31)
        seen = Counter()
        for _ in range(400):
            one = random_form(chance, "wxyz", 3)
            other = renamed(chance, one) if chance.random() < 0.3 else random_form(chance, "wxyz", 3)
            if all_matchings(one, other):
                self.assertIsNone(refutation(one, other))
                seen["alike"] += 1
            else:
                seen[self.check(one, other)[0]] += 1
        self.assertTrue(all(seen[word] > 20 for word in ("alike", "ports", "rounds")), seen)

    def test_ports(self):
        one, other = Form({"p": "a", "q": "b"}, wires("ab")), Form({"q": "b", "p": "a", "r": "a"}, wires("ab"))
        self.assertEqual([self.check(one, other), self.check(other, one)], [("ports", "r")] * 2)
        self.assertEqual(self.check(Form({"p": "a"}, []), Form({"q": "a"}, []))[0], "ports")

    def test_ports_on_either_side(self):
        one = Form({"z": "a", "p": "b", "d": "b"}, wires("ab"))
        other = Form({"p": "b", "y": "a", "c": "a", "z2": "b"}, wires("ab"))
        for mine, theirs in ((one, other), (other, one)):
            word, name = self.check(mine, theirs)
            self.assertEqual(word, "ports")
            self.assertIn(name, ("c", "d", "y", "z", "z2"))
            for told in ("c", "d", "y", "z", "z2"):
                self.assertIs(lets_refutation(mine, theirs, ("ports", told)), True)
            for told in ("p", "a", "b", "x", ""):
                self.assertIs(lets_refutation(mine, theirs, ("ports", told)), False)

    def test_unlike_numbers_of_nets(self):
        one, other = Form({}, [single(TAP, "x", "t")]), Form({}, [single(TWO, "x y", "t")])
        self.assertEqual(self.check(one, other), ("rounds", (({"x": 0}, {"x": 0, "y": 0}),), ("net", 0)))
        self.assertTrue(lets_refutation(Form({}, []), one, ("rounds", (({}, {"x": 0}),), ("net", 0))))

    def test_rounds(self):
        for one, other in ((Form({"p": "a", "q": "b"}, []), Form({"p": "a", "q": "a"}, [])),
                           (Form({}, wires("ab bc cd")), Form({}, wires("ab ac ad"))),
                           (Form({"p": "a"}, wires("ab bc cd")), Form({"p": "b"}, wires("ab bc cd"))),
                           (Form({}, [single(TAP, "x", "t")]), Form({}, [single(TAP, "x", "t", 2)])),
                           (Form({}, [single(TAP, "x", "t")]), Form({}, [single(TAP, "x", "t"), single(TAP, "x", "u")])),
                           (Form({}, [branch(Leaf(ARROW, 1), "a b", "t")]), Form({}, [branch(Leaf(WIRE, 1), "a b", "t")]))):
            self.assertEqual([self.check(one, other)[0], self.check(other, one)[0]], ["rounds", "rounds"])

    def test_tries(self):
        for left, there in (((6,), (3, 3)), ((3, 3), (6,)), ((10,), (5, 5)), ((5, 5), (10,)), ((3, 4), (7,)), ((2, 2), (4,)),
                            ((2, 2, 2), (2, 4)), ((3, 3, 6), (3, 3, 3, 3)), ((3, 3, 3, 3), (4, 4, 4)), ((12,), (3, 9))):
            one, other = rings(*left), rings(*there)
            begun = process_time()
            paper = self.check(one, other)
            self.assertLess(process_time() - begun, 20)
            self.assertEqual([paper[0], len(paper[2])], ["try", len(other.all_nets())])
            self.assertIsNone(refutation(one, rings(*left[::-1])))
        self.assertEqual(size(self.check(rings(10), rings(5, 5))), 11)
        self.assertEqual(size(self.check(rings(3, 3, 6), rings(3, 3, 3, 3))), 13)

    def test_tries_within_tries(self):
        one, other = rings(3, 3, 3, 3), rings(3, 3, 6)
        begun = process_time()
        paper = refutation(one, other)
        self.assertEqual([size(paper), lets_refutation(one, other, paper)], [259, True])
        self.check_rounds(one, other, paper, [])
        self.assertLess(process_time() - begun, 20)

    def test_try_beside_other_parts(self):
        one, other = [Form({"p": "z"}, [*rings(*sizes).entries, single(TWO, "z y", "t")]) for sizes in ((6,), (3, 3))]
        paper = self.check(one, other)
        self.assertEqual([paper[0], len(paper[2])], ["try", 8])

    def test_forms_without_items(self):
        self.assertIsNone(refutation(Form({}, []), Form({}, [], ["t"])))
        self.assertIsNone(refutation(Form({"p": "a"}, []), Form({"p": "b"}, [])))

    def test_limits(self):
        small = Form({}, [single(TAP, "x", "t")])
        great = Form({}, [single(TAP, "x", f"t{at}") for at in range(13)])
        wide = Form({}, [single(SIX, " ".join(f"n{at}x{by}" for by in range(6)), f"t{at}") for at in range(4)] + [
            single(TAP, "x", "u")])
        for one, other, number in ((small, great, 13), (great, small, 13), (small, wide, 25), (wide, wide, 25), (wide, great, 13)):
            self.fails(LimitExceeded, number, refutation, one, other)
            for wrong in (None, 3, ("ports", "p")):
                self.fails(LimitExceeded, number, lets_refutation, one, other, wrong)
                self.fails(LimitExceeded, number, lets_matching, one, other, wrong, wrong)
                self.fails(LimitExceeded, number, lets_matching, one, other, wrong)
        ported = Form({"p": "x"}, great.entries)
        self.fails(LimitExceeded, 13, refutation, small, ported)
        twelve = Form({}, [single(TAP, "x", f"t{at}") for at in range(12)])
        full = Form({}, [single(SIX, " ".join(f"n{at}x{by}" for by in range(6)), f"t{at}") for at in range(4)])
        self.assertEqual([refutation(twelve, twelve), refutation(full, full)], [None, None])
        self.assertEqual(self.check(twelve, full)[0], "rounds")


class CheckerTest(Case):
    def test_spoiled_papers(self):
        chance = Random(32)
        seen = Counter()
        for _ in range(180):
            one, other = random_form(chance, "wxyz", 3), random_form(chance, "wxyz", 3)
            if chance.random() < 0.12:
                one, other = rings(4), rings(2, 2)
            paper = refutation(one, other)
            for _ in range(12 if paper else 0):
                told = paper
                for _ in range(chance.randint(1, 3)):
                    told = spoiled(chance, one, other, told)
                expected = right(one, other, told)
                self.assertIs(lets_refutation(one, other, told), expected, told)
                seen[paper[0], expected] += 1
        for word in ("ports", "rounds", "try"):
            self.assertTrue(seen[word, True] > 20 and seen[word, False] > 20, seen)

    def test_alike_forms_have_none(self):
        chance = Random(33)
        for _ in range(150):
            one = random_form(chance, "wxyz", 3)
            other = renamed(chance, one)
            colours = list(rounds(one, other))
            for _ in range(8):
                told = spoiled(chance, one, other, ("rounds", tuple(colours), ("net", 0)))
                self.assertFalse(lets_refutation(one, other, told))
                self.assertFalse(lets_refutation(one, other, ("ports", chance.choice("pqr"))))
        paper = refutation(rings(6), rings(3, 3))
        self.assertFalse(lets_refutation(rings(6), rings(6), paper))
        self.assertFalse(lets_refutation(rings(3, 3), rings(3, 3), paper))

    def test_no_papers(self):
        one, other = Form({}, [single(TAP, "x", "t")]), Form({}, [single(TWO, "x y", "t")])
        colours = ({"x": 0}, {"x": 0, "y": 0})
        good = ("rounds", (colours,), ("net", 0))
        self.assertTrue(lets_refutation(one, other, good))
        for wrong in (list(good), (*good, 1), good[:2], ("round", *good[1:]), ("rounds", [colours], ("net", 0)), "rounds",
                      ("rounds", (), ("net", 0)), ("rounds", colours, ("net", 0)), ("rounds", (list(colours),), ("net", 0)),
                      ("rounds", (colours[:1],), ("net", 0)), ("rounds", ((*colours, {}),), ("net", 0)),
                      ("rounds", (([], {}),), ("net", 0)), ("rounds", (({"x": 0}, None),), ("net", 0)), {"rounds": good},
                      ("rounds", (colours,), ["net", 0]), ("rounds", (colours,), ("net",)), ("rounds", (colours,), ("net", 0, 0)),
                      ("rounds", (colours,), ("net", False)), ("rounds", (colours,), ("net", "0")), ("rounds", (colours,), None),
                      ("rounds", (colours,), ("net", 1)), ("rounds", (colours,), ("item", 0)), ("rounds", (colours,), ()),
                      ("rounds", None, ("net", 0)), ("rounds", (None,), ("net", 0)), ("rounds", 3, 3), (), ("ports",), 3,
                      ("ports", "p"), ("ports", None), ("ports", ["p"]), ("ports", "p", "p"), ("try", "x", ()), (["rounds"],), *ODD):
            self.assertIs(lets_refutation(one, other, wrong), False, wrong)

    def test_other_words(self):
        one, other = Form({"p": "x"}, []), Form({"q": "x", "p": "x"}, [])
        self.assertTrue(lets_refutation(one, other, ("ports", "q")))
        for wrong in (("port", "q"), ("try", "q"), ("rounds", "q"), ("ports", "q", "q"), ("ports", "p"), ("ports", "r"), (None, "q"),
                      (("ports",), "q"), ["ports", "q"], ("ports", ("q",)), ("net", "q")):
            self.assertIs(lets_refutation(one, other, wrong), False)
        word, net, branches = refutation(rings(4), rings(2, 2))
        for wrong in ("tries", "rounds", "ports", None, ("try",)):
            self.assertIs(lets_refutation(rings(4), rings(2, 2), (wrong, net, branches)), False)
        self.assertTrue(lets_refutation(rings(4), rings(2, 2), (word, net, branches)))

    def test_colourings(self):
        one, other = Form({}, [single(TAP, "x", "t")]), Form({}, [single(TWO, "x y", "t")])
        for mine, theirs, fine in (({"x": 7}, {"x": 7, "y": 7}, True), ({"x": -3}, {"y": -3, "x": -3}, True),
                                   ({"x": 10 ** 59}, {"y": 10 ** 59, "x": 10 ** 59}, True), ({"x": 1}, {"x": 1, "y": True}, False),
                                   ({"x": True}, {"x": True, "y": True}, False), ({"x": 0}, {"x": 0, "y": False}, False),
                                   ({"x": 1}, {"x": 1}, False), ({"x": 1}, {"x": 1, "y": 1, "z": 1}, False),
                                   ({}, {"x": 1, "y": 1}, False), ({"x": 1}, {"x": 1, "z": 1}, False),
                                   ({"x": 1}, {"x": 1, "y": 2}, False), ({"x": "1"}, {"x": "1", "y": "1"}, False)):
            told = ("net", mine.get("x", 1))
            self.assertIs(lets_refutation(one, other, ("rounds", ((mine, theirs),), told)), fine)

    def test_differences_need_not_be_the_first(self):
        one = Form({}, [single(TAP, "x", "t1"), single(TAP, "y", "t2", 2)])
        other = Form({}, [single(TAP, "x", "u1"), single(TAP, "y", "u2", 3)])
        colours = first_colours(one, other)
        for told, fine in ((("item", 0, "t2"), True), (("item", 1, "u2"), True), (("item", 0, "t1"), False), (("item", 1, "u1"), False),
                           (("item", 0, "u2"), False), (("item", 1, "t2"), False), (("item", 2, "u2"), False), (("net", 0), False),
                           (("item", True, "u2"), False), (("item", False, "t2"), False), (("item", -1, "u2"), False),
                           (("item", 0, None), False), (("item", 0, ["t2"]), False), (["item", 0, "t2"], False),
                           (("item", 0, "t2", 0), False), (("items", 0, "t2"), False), (("item", "0", "t2"), False)):
            self.assertIs(lets_refutation(one, other, ("rounds", (colours,), told)), fine)
        second = ({"x": 4, "y": 5}, {"x": 4, "y": 6})
        for told, fine in ((("net", 5), True), (("net", 6), True), (("net", 4), False), (("net", 7), False), (("item", 0, "t2"), True)):
            self.assertIs(lets_refutation(one, other, ("rounds", (colours, second), told)), fine)
        self.assertFalse(lets_refutation(one, other, ("rounds", (second,), ("net", 5))))

    def test_a_difference_under_the_last_colouring_alone(self):
        one, other = Form({}, [single(TAP, "x", "t")]), Form({}, [single(TWO, "x y", "t")])
        good = ({"x": 0}, {"x": 0, "y": 0})
        apart = ({"x": 3}, {"x": 4, "y": 5})
        self.assertTrue(lets_refutation(one, other, ("rounds", (good, apart), ("net", 4))))
        self.assertFalse(lets_refutation(one, other, ("rounds", (good, apart), ("net", 0))))

    def test_tries_may_have_few_branches(self):
        one, other = Form({"p": "a"}, wires("ab")), Form({"p": "a"}, [single(TAP, "a", "t")])
        for net in "ab":
            colours = ({net: 1, "ab".replace(net, ""): 2}, {"a": 1})
            inner = ("try", "b" if net == "a" else "a", ())
            self.assertTrue(lets_refutation(one, other, ("try", net, (("a", inner),))))
            rows = ("rounds", (colours,), ("net", 1))
            self.assertFalse(lets_refutation(one, other, ("try", net, (("a", rows),))))
        self.assertTrue(lets_refutation(Form({}, wires("ab")), Form({}, []), ("try", "a", ())))
        self.assertFalse(lets_refutation(Form({}, wires("ab")), Form({}, []), ("try", "c", ())))
        self.assertFalse(lets_refutation(Form({}, []), Form({}, []), ("try", "a", ())))

    def test_wrong_tries(self):
        one, other = rings(4), rings(2, 2)
        _, net, branches = refutation(one, other)
        rest = dict(branches)
        self.assertTrue(lets_refutation(one, other, ("try", net, branches[::-1])))
        first = branches[0]
        nested = ("try", net, (("a", ("try", net, branches[1:])), *branches[1:]))
        again = ("try", net, (("a", ("try", "b" if net != "b" else "c", branches)), *branches[1:]))
        for wrong in (("try", net, list(branches)), ("try", net, branches[1:]), ("try", net, (*branches, first)), nested, again,
                      ("try", net, (first, first, *branches[2:])), ("try", "z", branches), ("try", None, branches),
                      ("try", [net], branches), ("try", net, rest), ("try", net, None), ("try", net, (*branches, ("z", first[1]))),
                      ("try", net, (list(first), *branches[1:])), ("try", net, ((*first, 1), *branches[1:])),
                      ("try", net, ((first[0], None), *branches[1:])), ("try", net, ((None, first[1]), *branches[1:])),
                      ("try", net, (([], first[1]), *branches[1:])), ("try", net), ("try", net, branches, 1), branches,
                      ("try", net, (("a", rest["b"]), ("b", rest["c"]), *branches[2:]))[:1]):
            self.assertIs(lets_refutation(one, other, wrong), False, wrong)

    def test_deeply_nested(self):
        one, other = rings(2, 2), rings(4)
        self.assertTrue(lets_refutation(one, other, self.deep(one, other, [])))

    def deep(self, one, other, pairs):
        """A paper that tries all nets of one, even where rounds would tell."""
        left = [net for net in one.all_nets() if net not in dict(pairs)]
        if not left:
            colourings = tuple(rounds(one, other, pairs))
            return ("rounds", colourings, all_differences(one, other, colourings[-1])[-1])
        free = [net for net in other.all_nets() if net not in [there for _, there in pairs]]
        return ("try", left[-1], tuple((net, self.deep(one, other, [*pairs, (left[-1], net)])) for net in free))

    def test_marks_of_fixed_pairs(self):
        # The colours of nets of unlike marks are free, those of equal marks are not.
        one, other = Form({}, wires("ab bc")), Form({}, [*wires("ab"), single(TAP, "c", "t")])
        inner = {there: tuple(rounds(one, other, [("b", there)])) for there in "abc"}
        paper = ("try", "b", tuple((there, ("rounds", told, all_differences(one, other, told[-1])[0])) for there, told in inner.items()))
        self.assertEqual([right(one, other, paper), lets_refutation(one, other, paper)], [True, True])
        swapped = ("try", "b", tuple((there, dict(paper[2])[by]) for there, by in zip("abc", "bca")))
        self.assertEqual([right(one, other, swapped), lets_refutation(one, other, swapped)], [False, False])

    def test_nothing_changes(self):
        one, other = rings(4), rings(2, 2)
        paper = refutation(one, other)
        before = repr(paper)
        self.assertTrue(lets_refutation(one, other, paper))
        self.assertEqual(repr(paper), before)
        paper[2][0][1][1][0][0].clear()
        self.assertEqual([repr(refutation(one, other)), lets_refutation(one, other, paper)], [before, False])


class LetsMatchingTest(Case):
    def test_plain_trial(self):
        chance = Random(34)
        for _ in range(120):
            one = random_form(chance, "wxy", 3)
            other = renamed(chance, one) if chance.random() < 0.8 else random_form(chance, "wxy", 3)
            known = all_matchings(one, other)
            for nets, ids in known:
                self.assertIs(lets_matching(one, other, nets, ids), True)
                self.assertIs(lets_matching(one, other, nets), True)
            for _ in range(10):
                nets = dict(zip(one.all_nets(), chance.sample("wxyv", len(one.all_nets()))))
                ids = {item.id: chance.choice("t0 t1 t2 t3".split()) for item in one}
                self.assertIs(lets_matching(one, other, nets, ids), (nets, ids) in known)
                self.assertIs(lets_matching(one, other, nets, None), nets in [told for told, _ in known])

    def test_any_values(self):
        form = Form({"p": "a"}, [branch(Leaf(GATE, 1, "x"), "a b", "t"), single(TAP, "b", "u"), single(TAP, "b", "v")])
        nets, ids = {net: net for net in "abx"}, {name: name for name in "tuv"}
        self.assertTrue(lets_matching(form, form, nets, ids))
        self.assertTrue(lets_matching(form, form, dict(reversed(nets.items())), {"v": "u", "t": "t", "u": "v"}))
        for wrong in (*ODD, 3, "ids", list(ids.items()), {"t": "t", "u": "u"}, {**ids, "w": "w"}, {**ids, "v": "u"},
                      {**ids, "v": ["v"]}, {**ids, "v": None}, {"t": "u", "u": "t", "v": "v"}, {**ids, 1: "v"}):
            if wrong is not None:
                self.assertIs(lets_matching(form, form, nets, wrong), False)
        for wrong in (*ODD, 3, "nets", list(nets.items()), {"a": "a", "b": "b"}, {**nets, "z": "z"}, {**nets, "x": "b"},
                      {**nets, "x": []}, {"a": "b", "b": "a", "x": "x"}, {**nets, 1: "x"}):
            for told in (ids, None, 3):
                self.assertIs(lets_matching(form, form, wrong, told), False)

    def test_no_items(self):
        empty = Form({}, [])
        self.assertEqual([lets_matching(empty, empty, {}, {}), lets_matching(empty, empty, {}), lets_matching(empty, empty, {}, ())],
                         [True, True, False])
        self.assertFalse(lets_matching(empty, Form({"p": "x"}, []), {}, {}))
        self.assertTrue(lets_matching(Form({"p": "y"}, []), Form({"p": "x"}, []), {"y": "x"}, {}))


class WithoutNamesTest(Case):
    def test_papers_for_all_orders_of_ports(self):
        chance, many = Random(7), 0
        for _ in range(200):
            one, other = random_form(chance, "xyz"), random_form(chance, "xyz")
            if sorted(one.ports) != sorted(other.ports):
                continue
            paper = refuted_without_names(one, other)
            names = sorted(other.ports)
            for order in permutations(names):
                turned = Form({name: other.ports[place] for name, place in zip(names, order)}, other.entries)
                if paper is not None:
                    self.assertIs(lets_refutation(one, turned, paper), True)
                    many += 1
                elif not one.ports:
                    self.assertEqual(refutation(one, other) is None or refutation(one, other)[0] == "try", True)
        self.assertGreater(many, 60)
        self.assertIsNone(refuted_without_names(Form({"p": "x", "q": "y"}, []), Form({"p": "u", "q": "v"}, [])))
        told = refuted_without_names(Form({"p": "x", "q": "y"}, []), Form({"p": "u", "q": "u"}, []))
        self.assertEqual([told[0], told[2][0]], ["rounds", "net"])
