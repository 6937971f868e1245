"""Items: branches and singles."""

from wishedwires.checks import are_names, is_name, is_net_map
from wishedwires.errors import InvalidForm, InvalidKind, InvalidName, InvalidPins, UnknownName
from wishedwires.expressions import Expression
from wishedwires.kinds import Kind
from wishedwires.ratios import value_of


class Item:
    """A branch, an expression between two nets, or a single, a part of a kind that is no path kind.

    It is made by its static methods, which choose the way of writing that is kept: the one with the first key.
    """

    def __init__(self, expression, turned, kind, worths, nets, names):
        self.expression = expression
        self._turned = turned
        self.kind = kind
        self.is_branch = kind is None
        self.worths = worths
        self.names = tuple(sorted(names, key=str))
        self.id = self.names[0]
        if self.is_branch:
            self.ends = nets
            self.slots = nets + expression.control_nets
            self.shape = f"branch {expression.shape}"
            self.key = _branch_key(expression, nets)
        else:
            self.ends = ()
            self.slots = nets
            self.shape = f"single {kind.text}"
            self.key = self.written({net: net for net in nets})

    @staticmethod
    def branch(expression, first, second, names):
        """The branch of an expression from the first net to the second one."""
        if not isinstance(expression, Expression):
            raise InvalidForm(expression)
        for net in (first, second):
            if not is_name(net):
                raise InvalidName(net)
        _check_part_names(names)
        turned = -expression
        if _branch_key(turned, (second, first)) < _branch_key(expression, (first, second)):
            return Item(turned, expression, None, turned.worths, (second, first), names)
        return Item(expression, turned, None, expression.worths, (first, second), names)

    @staticmethod
    def single(kind, value, nets, names):
        """The single of a part of a kind."""
        if not isinstance(kind, Kind) or kind.is_path:
            raise InvalidKind(kind)
        worth = value_of(value)
        if not are_names(nets, len(kind.pins)):
            raise InvalidPins(nets)
        _check_part_names(names)
        return Item(None, None, kind, (worth,), kind.first_writing(nets), names)

    def along(self, net):
        """The expression of a branch from this end on."""
        if net not in self.ends:
            raise UnknownName(net)
        return self.expression if net == self.ends[0] else self._turned

    def written(self, words):
        """A text of the item with words for its nets, in which nothing is joined.

        Texts of two items are equal exactly if the items would be the same with these words as nets.
        """
        if not self.is_branch:
            placed = self.kind.first_writing([words[net] for net in self.slots])
            return " ".join([self.shape, "=", str(self.worths[0]), *placed])
        first, second = [words[net] for net in self.ends]
        along = self.expression.written(words)
        against = along if self.expression.key == self._turned.key else self._turned.written(words)
        there = " ".join([along, first, second])
        back = " ".join([against, second, first])
        return there if there < back else back

    def mapped(self, nets):
        """The item with nets replaced by a dict, its expression made anew."""
        if not is_net_map(nets):
            raise InvalidPins(nets)
        if self.is_branch:
            first, second = [nets.get(net, net) for net in self.ends]
            return Item.branch(self.expression.mapped(nets), first, second, self.names)
        return Item.single(self.kind, self.worths[0], [nets.get(net, net) for net in self.slots], self.names)

    def __len__(self):
        return len(self.slots)

    def __eq__(self, other):
        return isinstance(other, Item) and self.key == other.key

    def __lt__(self, other):
        if not isinstance(other, Item):
            raise InvalidForm(other)
        return self.key < other.key


def _branch_key(expression, nets):
    """The key of the branch of an expression between two nets, written in this way."""
    return " ".join(["branch", expression.shape, "=", expression.details, *nets])


def _check_part_names(names):
    """InvalidForm unless names is a list or tuple of one or more different names."""
    if not isinstance(names, (list, tuple)) or len(names) == 0:
        raise InvalidForm(names)
    if not are_names(names, len(names)) or len(set(names)) < len(names):
        raise InvalidForm(names)
