"""The fewest openings with which two blocks match block by block."""

from wishedwires.classes import Memory, classing_with, lets_classing_with, named_turn, seats_in
from wishedwires.errors import LimitExceeded, UnknownName
from wishedwires.flat import opened

MOST_SPREAD = 12
MOST_USED = 6


class Pair:
    """Two blocks, with the books of these and of all that they use."""

    def __init__(self, one, name, other, other_name):
        if name not in one:
            raise UnknownName(name)
        if other_name not in other:
            raise UnknownName(other_name)
        spread = max(one.spread_of(name), other.spread_of(other_name), key=int)
        if spread > MOST_SPREAD:
            raise LimitExceeded(spread)
        self.blocks = (name, other_name)
        self.used = (one.uses(name), other.uses(other_name))
        count = len(self.used[0]) + len(self.used[1])
        if count > MOST_USED:
            raise LimitExceeded(count)
        self.books = (one.only(name), other.only(other_name))

    def opened_at(self, names):
        """The two books opened at a set."""
        mine, theirs = names
        return opened(self.books[0], *mine), opened(self.books[1], *theirs)

    def sets(self):
        """All sets, by ascending number of names."""
        found = [(len(mine) + len(theirs), (mine, theirs))
                 for mine in _choices(self.used[0]) for theirs in _choices(self.used[1])]
        return [names for _, names in sorted(set(found))]

    def are_alike(self, paper):
        """Whether a classing tells that the blocks are alike under the map of equal names."""
        return named_turn(seats_in(paper), self.blocks[0], self.blocks[1]) is not None


def openings(one, name, other, other_name):
    """An openings paper."""
    return _rows(Pair(one, name, other, other_name))


def least_openings(one, name, other, other_name):
    """A set with as few names as possible at which the two blocks are alike, or None."""
    pair = Pair(one, name, other, other_name)
    names, paper = _rows(pair)[-1]
    return names if pair.are_alike(paper) else None


def lets_openings(one, name, other, other_name, paper):
    """Whether any value is an openings paper."""
    pair = Pair(one, name, other, other_name)
    if not isinstance(paper, tuple) or not paper:
        return False
    if not all([isinstance(row, tuple) and len(row) == 2 for row in paper]):
        return False
    told = [names for names, _ in paper]
    if not _are_sets_in_order(pair.sets(), told):
        return False
    memory = Memory()
    for index, (names, classes) in enumerate(paper):
        one_opened, other_opened = pair.opened_at(names)
        if not lets_classing_with(one_opened, other_opened, classes, memory):
            return False
        if pair.are_alike(classes):
            return index + 1 == len(paper)
    return len(told) == len(pair.sets())


def _rows(pair):
    """The rows of an openings paper."""
    rows = []
    memory = Memory()
    for names in pair.sets():
        one, other = pair.opened_at(names)
        paper = classing_with(one, other, memory)
        rows.append((names, paper))
        if pair.are_alike(paper):
            return tuple(rows)
    return tuple(rows)


def _choices(names):
    """All choices out of sorted names, as sorted tuples."""
    found = [()]
    for name in names:
        found = found + [(*chosen, name) for chosen in found]
    return found


def _are_sets_in_order(known, told):
    """Whether values are sets, each once, by ascending number of names, and with all that have fewer than the last."""
    if not all([names in known for names in told]):
        return False
    numbers = [len(mine) + len(theirs) for mine, theirs in told]
    if any([later < number for number, later in zip(numbers, numbers[1:])]):
        return False
    fewer = [names for names in known if len(names[0]) + len(names[1]) < numbers[-1]]
    return len(set(told)) == len(told) and all([names in told for names in fewer])
