"""Rules that join two values."""

from wishedwires.errors import InvalidKind
from wishedwires.ratios import Ratio, value_of


class ValueRule:
    """A rule of joining: "sum", or "inverse" for the inverse of the sum of the inverses."""

    def __init__(self, word):
        if word not in ("sum", "inverse"):
            raise InvalidKind(word)
        self.word = word

    def __call__(self, one, other):
        return self.all_of(one, other)

    def all_of(self, first, *rest):
        """All the values joined."""
        values = [value_of(value) for value in [first, *rest]]
        if self.word == "sum":
            return _total(values)
        return Ratio(1).over(_total([Ratio(1).over(value) for value in values]))

    def __eq__(self, other):
        return isinstance(other, ValueRule) and self.word == other.word


def _total(values):
    total = Ratio(0)
    for value in values:
        total = total + value
    return total
