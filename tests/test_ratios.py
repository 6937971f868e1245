"""Point 4: ratios."""

from itertools import product
from math import gcd

from wishedwires.errors import InvalidNumber, NoDivision, NotPositive
from wishedwires.ratios import Ratio, value_of
from tests.helper import Case, ODD

SMALL = [Ratio(top, bottom) for top in range(-4, 5) for bottom in (1, 2, 3, 6)]
NO_NUMBERS = (*ODD, "a", "3")


class RatioTest(Case):
    def test_lowest_terms(self):
        for top, bottom in product(range(-12, 13), range(-12, 13)):
            if bottom == 0:
                continue
            ratio = Ratio(top, bottom)
            self.assertGreater(ratio.bottom, 0)
            self.assertEqual(gcd(ratio.top, ratio.bottom), 1)
            self.assertEqual(ratio.top * bottom, top * ratio.bottom)

    def test_attributes(self):
        self.assertEqual([Ratio(6, -4).top, Ratio(6, -4).bottom], [-3, 2])
        self.assertEqual([Ratio(0, -7).top, Ratio(0, -7).bottom], [0, 1])
        self.assertEqual([Ratio(5).top, Ratio(5).bottom], [5, 1])

    def test_wrong_arguments(self):
        for wrong in (*NO_NUMBERS, Ratio(1)):
            self.fails(InvalidNumber, wrong, Ratio, wrong)
            self.fails(InvalidNumber, wrong, Ratio, 1, wrong)
            self.fails(InvalidNumber, wrong, Ratio, wrong, 0)
        self.fails(InvalidNumber, "x", Ratio, "x", "y")
        self.fails(NoDivision, 7, Ratio, 7, 0)
        self.fails(NoDivision, 0, Ratio, 0, 0)

    def test_arithmetic(self):
        for one, other in product(SMALL, SMALL):
            left, right = one.top * other.bottom, other.top * one.bottom
            below = one.bottom * other.bottom
            self.assertEqual(one + other, Ratio(left + right, below))
            self.assertEqual(one - other, Ratio(left - right, below))
            self.assertEqual(one * other, Ratio(one.top * other.top, below))
            if other:
                self.assertEqual(one.over(other), Ratio(left, right))
            self.assertEqual(-one, Ratio(-one.top, one.bottom))
            self.assertEqual(abs(one), one if one > 0 else -one)

    def test_integers_on_either_side(self):
        for one, whole in product(SMALL, range(-3, 4)):
            other = Ratio(whole)
            self.assertEqual([one + whole, one - whole, one * whole], [one + other, one - other, one * other])
            self.assertEqual([whole + one, whole - one, whole * one], [other + one, other - one, other * one])
            self.assertEqual(one.over(whole) if whole else None, one.over(other) if whole else None)
            for result in (one + whole, whole - one, whole * one):
                self.assertIsInstance(result, Ratio)

    def test_comparisons(self):
        for one, other in product(SMALL, SMALL):
            left, right = one.top * other.bottom, other.top * one.bottom
            self.assertEqual([one < other, one <= other, one > other, one >= other, one == other, one != other],
                             [left < right, left <= right, left > right, left >= right, left == right, left != right])
        for one, whole in product(SMALL, range(-3, 4)):
            other = Ratio(whole)
            self.assertEqual([one < whole, one <= whole, one > whole, one >= whole, one == whole, one != whole],
                             [one < other, one <= other, one > other, one >= other, one == other, one != other])
            self.assertEqual([whole < one, whole <= one, whole > one, whole >= one, whole == one, whole != one],
                             [other < one, other <= one, other > one, other >= one, other == one, other != one])

    def test_wrong_operands(self):
        half = Ratio(1, 2)
        for wrong in NO_NUMBERS:
            calls = [lambda: half + wrong, lambda: half - wrong, lambda: half * wrong, lambda: half.over(wrong),
                     lambda: half < wrong, lambda: half <= wrong, lambda: half > wrong, lambda: half >= wrong,
                     lambda: wrong + half, lambda: wrong - half, lambda: wrong * half]
            for call in calls:
                self.fails(InvalidNumber, wrong, call)
            self.assertFalse(half == wrong)
            self.assertTrue(half != wrong)
        self.assertFalse(Ratio(1) == True)  # noqa: E712
        self.assertFalse(Ratio(0) == False)  # noqa: E712

    def test_no_division(self):
        self.fails(NoDivision, 0, Ratio(1, 2).over, 0)
        zero = Ratio(0, 5)
        self.fails(NoDivision, zero, Ratio(1, 2).over, zero)

    def test_truth(self):
        self.assertTrue(Ratio(1, 100))
        self.assertTrue(Ratio(-1, 100))
        self.assertFalse(Ratio(0, 100))

    def test_texts(self):
        self.assertEqual([str(Ratio(3)), str(Ratio(5, -2)), str(Ratio(0)), str(Ratio(-4, 2))], ["3", "-5/2", "0", "-2"])
        self.assertEqual([repr(Ratio(3, 2)), repr(Ratio(3)), repr(Ratio(-3, 6))],
                         ["Ratio(3, 2)", "Ratio(3, 1)", "Ratio(-1, 2)"])


class ParseTest(Case):
    def test_every_str(self):
        for ratio in SMALL:
            self.assertEqual(Ratio.parse(str(ratio)), ratio)

    def test_almost_ratios(self):
        for text in ("", "-", "+3", "03", "-0", "0/5", "3/1", "6/4", "1/0", "0/0", "1/-2", "-1/-2", "/2", "1/", "1//2",
                     "1/2/3", " 1", "1 ", "1 /2", "1/ 2", "1_0", "1/02", "--1", "1.0", "1e3", "\u0663", "\u00b2",
                     "1\n", "1/2\n", "a", "-/2", "1/+2"):
            self.fails(InvalidNumber, text, Ratio.parse, text)

    def test_no_texts(self):
        for wrong in (*ODD, 3, Ratio(3)):
            self.fails(InvalidNumber, wrong, Ratio.parse, wrong)

    def test_digits(self):
        many = "1" + "0" * 59
        more = many + "0"
        for text in (many, "-" + many, "1/" + many, "-1/" + many, f"{many[:-1]}1/{many}"):
            self.assertEqual(str(Ratio.parse(text)), text)
        for text in (more, "-" + more, "1/" + more, f"{more}/3", "1" * 5000, "1/" + "1" * 5000):
            self.fails(InvalidNumber, text, Ratio.parse, text)


class ValueTest(Case):
    def test_values(self):
        self.assertEqual([value_of(3), value_of(Ratio(1, 2))], [Ratio(3), Ratio(1, 2)])
        for wrong in (*NO_NUMBERS, 0, -1, Ratio(0), Ratio(-1, 2)):
            self.fails(NotPositive, wrong, value_of, wrong)
