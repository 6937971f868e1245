"""Point 5: rules."""

from itertools import permutations

from wishedwires.errors import InvalidKind, NotPositive
from wishedwires.ratios import Ratio
from wishedwires.rules import ValueRule
from tests.helper import Case, ODD

WRONG_VALUES = (*ODD, "1", 0, -2, Ratio(0), Ratio(-1, 2))


class RuleTest(Case):
    def setUp(self):
        self.sum, self.inverse = ValueRule("sum"), ValueRule("inverse")

    def test_words(self):
        self.assertEqual([self.sum.word, self.inverse.word], ["sum", "inverse"])
        for wrong in (*ODD, "", "Sum", "su", "sum ", "summ", 1, self.sum):
            self.fails(InvalidKind, wrong, ValueRule, wrong)

    def test_two(self):
        self.assertEqual(self.sum(2, 3), Ratio(5))
        self.assertEqual(self.sum(Ratio(1, 2), Ratio(1, 3)), Ratio(5, 6))
        self.assertEqual(self.inverse(2, 3), Ratio(6, 5))
        self.assertEqual(self.inverse(Ratio(1, 2), 1), Ratio(1, 3))
        self.assertIsInstance(self.sum(1, 1), Ratio)

    def test_one(self):
        for rule in (self.sum, self.inverse):
            self.assertEqual(rule.all_of(7), 7)
            self.assertIsInstance(rule.all_of(7), Ratio)

    def test_many_in_any_order(self):
        values = [1, Ratio(1, 2), 3, Ratio(4, 5)]
        for order in permutations(values):
            self.assertEqual(self.sum.all_of(*order), Ratio(53, 10))
            self.assertEqual(self.inverse.all_of(*order), Ratio(12, 55))
            for rule in (self.sum, self.inverse):
                self.assertEqual(rule(rule(order[0], order[1]), rule(order[2], order[3])), rule.all_of(*order))

    def test_wrong_values(self):
        for rule in (self.sum, self.inverse):
            for wrong in WRONG_VALUES:
                self.fails(NotPositive, wrong, rule, wrong, 1)
                self.fails(NotPositive, wrong, rule, 1, wrong)
                self.fails(NotPositive, wrong, rule, wrong, "x")
                self.fails(NotPositive, wrong, rule.all_of, wrong)
                self.fails(NotPositive, wrong, rule.all_of, 1, 2, wrong, "x")

    def test_equal(self):
        self.assertEqual(self.sum, ValueRule("sum"))
        self.assertNotEqual(self.sum, self.inverse)
        for other in (*ODD, "sum"):
            self.assertFalse(self.sum == other)
