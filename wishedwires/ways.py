"""Ways from an item to another one: what of the one may stand for what of the other."""

from wishedwires.errors import LimitExceeded
from wishedwires.expressions import Leaf

MOST_LEAVES = 5


def ways(item, other):
    """The list of the ways from an item to another one, ascending."""
    many = max(len(item.worths), len(other.worths))
    if many > MOST_LEAVES:
        raise LimitExceeded(many)
    if item.shape != other.shape:
        return []
    if not item.is_branch:
        return [(order, (0,)) for order in item.kind.exchanges()]
    there = _tree(other.expression, 1, 0)
    told = []
    for ends, sign in (((0, 1), 1), ((1, 0), -1)):
        for pairs in _pairings(_tree(item.expression, sign, 0), there):
            leaves = tuple([place for _, place in sorted(set(pairs))])
            told.append((ends + _control_pins(other.expression, leaves), leaves))
    return sorted(set(told))


def _tree(expression, sign, start):
    """An expression without values and nets, its turns multiplied by sign, its leaves numbered from start on."""
    if isinstance(expression, Leaf):
        return (f"{expression.kind.text} {expression.turn * sign}", start)
    members = []
    for member in expression.members:
        members.append(_tree(member, sign, start))
        start = start + len(member)
    return (expression.WAY, members)


def _pairings(one, other):
    """All ways to make a tree of another one, each as a list of pairs of the numbers of leaves."""
    if one[0] != other[0]:
        return []
    if isinstance(one[1], int):
        return [[(one[1], other[1])]]
    if len(one[1]) != len(other[1]):
        return []
    found = [([], ())]
    for member in one[1]:
        found = [(pairs + more, (*taken, at)) for pairs, taken in found for at, there in enumerate(other[1])
                 if at not in taken for more in _pairings(member, there)]
    return [pairs for pairs, _ in found]


def _control_pins(expression, leaves):
    """The indices of the pins behind the ends at which some leaves, told by their numbers, have their controls."""
    starts = []
    many = 2
    for leaf in expression.leaves():
        starts.append(list(range(many, many + len(leaf.controls))))
        many = many + len(leaf.controls)
    return tuple([pin for leaf in leaves for pin in starts[leaf]])
