"""Point 12 and the interface section forms: forms."""

from random import Random

from wishedwires.errors import InvalidForm, UnknownName
from wishedwires.expressions import Leaf
from wishedwires.forms import Form
from tests.helper import (AMP, ODD, TAP, TWO, WIRE, WRONG_NAMES, WRONG_WORDS, Case, branch, of_names, random_form,
                          single)


def sample():
    return Form({"q": "b", "p": "a", "r": "a"}, [branch(Leaf(WIRE, 2), "a c/d", "t2 t5"), single(AMP, "b c e", "t1")],
                ["u2", "u1"])


class MakingTest(Case):
    def test_attributes(self):
        form = sample()
        self.assertEqual(list(form.ports.items()), [("q", "b"), ("p", "a"), ("r", "a")])
        self.assertEqual(sorted(item.id for item in form.entries), ["t1", "t2"])
        self.assertEqual([type(form.entries), form.dropped, len(form)], [tuple, ("u1", "u2"), 2])
        self.assertEqual(form.all_nets(), ["a", "b", "c", "c/d", "e"])

    def test_empty(self):
        for form in (Form({}, []), Form({}, (), ()), Form(ports={}, entries=[], dropped=[])):
            self.assertEqual([form.ports, form.entries, form.dropped, form.all_nets(), len(form), list(form)],
                             [{}, (), (), [], 0, []])
            self.assertEqual(form.record, ((), (), ()))
        self.assertEqual(Form({"p": "x"}, []).all_nets(), ["x"])

    def test_order(self):
        items = [single(TAP, "x", "c"), single(TAP, "x", "a"), single(TAP, "x", "b d"), single(TAP, "w", "e"),
                 branch(Leaf(WIRE, 1), "x y", "f"), single(TWO, "x x", "g")]
        form = Form({}, items)
        self.assertEqual([item.key for item in form], sorted(item.key for item in items))
        self.assertEqual([item.id for item in form if item == items[0]], ["a", "b", "c"])
        self.assertEqual(Form({}, items[::-1]).record, form.record)
        self.assertEqual(tuple(form), form.entries)
        self.assertEqual([Form({}, tuple(items)).record, set(map(id, form))], [form.record, set(map(id, items))])

    def test_copies(self):
        ports, items, dropped = {"p": "a"}, [single(TAP, "a", "t")], ["u"]
        form = Form(ports, items, dropped)
        ports["q"] = "b"
        items.append(single(TAP, "b", "v"))
        dropped.append("z")
        form.ports["q"] = "b"
        form.ports.clear()
        form.all_nets().append("b")
        self.assertEqual([form.ports, len(form), form.dropped, form.all_nets()], [{"p": "a"}, 1, ("u",), ["a"]])

    def test_wrong_ports(self):
        for wrong in ([value for value in ODD if not isinstance(value, dict)] + ["ab", 3]):
            self.fails(InvalidForm, wrong, Form, wrong, 3, 3)
        for wrong in WRONG_NAMES:
            ports = {"p": "a", "q": wrong}
            self.fails(InvalidForm, ports, Form, ports, 3, 3)
        for wrong in [name for name in WRONG_WORDS if not isinstance(name, (list, dict))]:
            ports = {"p": "a", wrong: "a"}
            self.fails(InvalidForm, ports, Form, ports, [], [])

    def test_wrong_entries(self):
        tap = single(TAP, "x", "t u")
        wrong_ones = [value for value in ODD if value not in ([], ())] + ["ab", 3, tap, {"t": tap}]
        for wrong in wrong_ones + [[tap, "t"], (tap, None), [tap, tap], [tap, single(TAP, "y", "s u")]]:
            self.fails(InvalidForm, wrong, Form, {}, wrong, 3)

    def test_wrong_dropped(self):
        tap = single(TAP, "x", "t u")
        wrong_ones = [value for value in ODD if value not in ([], (), ["a"], ("a",))] + ["ab", 3, {"a": "a"}]
        for wrong in wrong_ones + [["v", "v"], ("v", "w", "v"), ["u"], ("v", "t")] + [["v", name] for name in WRONG_NAMES]:
            self.fails(InvalidForm, wrong, Form, {}, [tap], wrong)
        self.assertEqual(Form({}, [tap], ("v", "a/b")).dropped, ("a/b", "v"))


class AskingTest(Case):
    def test_item_of(self):
        form = sample()
        self.assertEqual([form.item_of(name).id for name in ("t1", "t2", "t5")], ["t1", "t2", "t2"])
        self.assertIs(form.item_of("t5"), form.item_of("t2"))
        for wrong in (*ODD, "u1", "t3", "a", 3, form.entries[0]):
            self.fails(UnknownName, wrong, form.item_of, wrong)

    def test_record(self):
        form = sample()
        told = tuple((item.key, item.names) for item in form.entries)
        self.assertEqual(form.record, ((("p", "a"), ("q", "b"), ("r", "a")), told, ("u1", "u2")))

    def test_in(self):
        form = sample()
        for item in form:
            self.assertIn(item, form)
            self.assertIn(of_names(item, ["z"]), form)
            self.assertNotIn(item.mapped({"b": "a", "c/d": "a"}), form)
        for wrong in (*ODD, "t1", 3, form.entries[0].key, form.entries):
            self.assertNotIn(wrong, form)

    def test_no_mapping(self):
        with self.assertRaises(TypeError):
            sample()[0]


class EqualTest(Case):
    def test_names_and_dropped_play_no_part(self):
        one, other = sample(), Form({"p": "a", "r": "a", "q": "b"}, [of_names(item, [f"z{at}"]) for at, item in
                                                                    enumerate(sample())])
        self.assertTrue(one == other)
        self.assertFalse(one != other)
        self.assertNotEqual(one.record, other.record)

    def test_unlike(self):
        form = sample()
        items = list(form)
        for other in (Form({"p": "a", "q": "b"}, items), Form({"q": "b", "p": "a", "r": "b"}, items),
                      Form(form.ports, items[:1]), Form(form.ports, [*items, of_names(items[0], ["z"])]),
                      Form(form.ports, [items[0], of_names(items[0], ["z"])])):
            self.assertFalse(form == other)
            self.assertTrue(form != other)
        for other in (*ODD, form.record, form.entries, "form", 3):
            self.assertFalse(form == other)

    def test_how_often(self):
        taps = [single(TAP, "x", "a"), single(TAP, "x", "b"), single(TAP, "y", "c")]
        more = [single(TAP, "x", "a"), single(TAP, "y", "b"), single(TAP, "y", "c")]
        self.assertFalse(Form({}, taps) == Form({}, more))
        mixed = [of_names(taps[2], ["a"]), of_names(taps[0], ["b"]), of_names(taps[1], ["c"])]
        self.assertTrue(Form({}, taps) == Form({}, mixed))

    def test_random(self):
        chance = Random(5)
        forms = [random_form(chance, "xy", 2) for _ in range(60)]
        for one in forms:
            for other in forms:
                same = one.ports == other.ports and sorted(item.key for item in one) == sorted(item.key for item in other)
                self.assertEqual(one == other, same)
