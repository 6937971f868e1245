"""Exact fractions."""

from math import gcd

from wishedwires.checks import is_digits, is_whole
from wishedwires.errors import InvalidNumber, NoDivision, NotPositive

PARSED_DIGITS = 60


class Ratio:
    """An exact fraction in lowest terms, its bottom above 0."""

    def __init__(self, top, bottom=1):
        if not is_whole(top):
            raise InvalidNumber(top)
        if not is_whole(bottom):
            raise InvalidNumber(bottom)
        if bottom == 0:
            raise NoDivision(top)
        common = gcd(top, bottom) if bottom > 0 else -gcd(top, bottom)
        self.top = top // common
        self.bottom = bottom // common

    @staticmethod
    def parse(text):
        """The ratio that is written as this text by str."""
        if not isinstance(text, str):
            raise InvalidNumber(text)
        top, slash, bottom = text.partition("/")
        if not _is_number(top.removeprefix("-")) or (slash and not _is_number(bottom)):
            raise InvalidNumber(text)
        below = int(bottom) if slash else 1
        if below == 0 or str(Ratio(int(top), below)) != text:
            raise InvalidNumber(text)
        return Ratio(int(top), below)

    def over(self, other):
        """The quotient of this ratio and another one."""
        right = _as_ratio(other)
        if right.top == 0:
            raise NoDivision(other)
        return Ratio(self.top * right.bottom, self.bottom * right.top)

    def __add__(self, other):
        right = _as_ratio(other)
        return Ratio(self.top * right.bottom + right.top * self.bottom, self.bottom * right.bottom)

    def __radd__(self, other):
        return _as_ratio(other) + self

    def __sub__(self, other):
        right = _as_ratio(other)
        return Ratio(self.top * right.bottom - right.top * self.bottom, self.bottom * right.bottom)

    def __rsub__(self, other):
        return _as_ratio(other) - self

    def __mul__(self, other):
        right = _as_ratio(other)
        return Ratio(self.top * right.top, self.bottom * right.bottom)

    def __rmul__(self, other):
        return _as_ratio(other) * self

    def __neg__(self):
        return Ratio(-self.top, self.bottom)

    def __abs__(self):
        return Ratio(abs(self.top), self.bottom)

    def __eq__(self, other):
        if isinstance(other, Ratio):
            return self.top == other.top and self.bottom == other.bottom
        return is_whole(other) and self.bottom == 1 and self.top == other

    def __ne__(self, other):
        return not self == other

    def __lt__(self, other):
        right = _as_ratio(other)
        return self.top * right.bottom < right.top * self.bottom

    def __le__(self, other):
        right = _as_ratio(other)
        return self.top * right.bottom <= right.top * self.bottom

    def __gt__(self, other):
        right = _as_ratio(other)
        return self.top * right.bottom > right.top * self.bottom

    def __ge__(self, other):
        right = _as_ratio(other)
        return self.top * right.bottom >= right.top * self.bottom

    def __bool__(self):
        return bool(self.top != 0)

    def __str__(self):
        if self.bottom == 1:
            return str(self.top)
        return f"{self.top}/{self.bottom}"

    def __repr__(self):
        return f"Ratio({self.top}, {self.bottom})"


def value_of(value):
    """A value as a ratio of its own; NotPositive unless it is a ratio or an integer above 0."""
    if isinstance(value, Ratio) and value.top > 0:
        return Ratio(value.top, value.bottom)
    if not is_whole(value) or value <= 0:
        raise NotPositive(value)
    return Ratio(value)


def _as_ratio(value):
    """A ratio or an integer as a ratio; InvalidNumber for any other value."""
    return value if isinstance(value, Ratio) else Ratio(value)


def _is_number(text):
    return is_digits(text) and len(text) <= PARSED_DIGITS
