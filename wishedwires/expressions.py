"""Expressions: what lies between two nets."""

from wishedwires.checks import are_names, is_net_map, is_whole
from wishedwires.errors import InvalidForm, InvalidKind, InvalidNumber, InvalidPins
from wishedwires.kinds import JoiningKind, PathKind
from wishedwires.ratios import value_of


class Expression:
    """The base of leaves, rows and bundles; what is said here of members is said of the latter two.

    A shape ends where its first bracket is closed, so no shape is the beginning of another one. As a key begins with
    the shape, members in ascending order are ascending by their shapes, too.
    """

    WAY = ""
    BRACKETS = ("", "")

    def __init__(self, members):
        opening, closing = self.BRACKETS
        self.members = members
        self.shape = opening + "".join([member.shape for member in members]) + closing
        self.details = ",".join([member.details for member in members])
        self.key = f"{self.shape} {self.details}"
        self.control_nets = tuple([net for member in members for net in member.control_nets])
        self.worths = tuple([worth for member in members for worth in member.worths])
        self.has_turns = any([member.has_turns for member in members])

    def leaves(self):
        """The leaves, those of each member in order."""
        for member in self.members:
            yield from member.leaves()

    def mapped(self, nets):
        """The expression made anew with control nets replaced by a dict, which the leaves check."""
        return _composed(self.WAY, [member.mapped(nets) for member in self.members])

    def written(self, words):
        """A text of the expression with words for its control nets, in which nothing is joined.

        It is equal exactly for those that are the same but for the order within rows and bundles.
        """
        opening, closing = self.BRACKETS
        return opening + "".join(sorted([member.written(words) for member in self.members], key=str)) + closing

    def __neg__(self):
        return _composed(self.WAY, [-member for member in self.members]) if self.has_turns else self

    def __and__(self, other):
        return _composed(Row.WAY, [self, _as_expression(other)])

    def __or__(self, other):
        return _composed(Bundle.WAY, [self, _as_expression(other)])

    def __len__(self):
        return len(self.worths)

    def __eq__(self, other):
        return isinstance(other, Expression) and self.key == other.key

    def __lt__(self, other):
        return self.key < _as_expression(other).key

    def __le__(self, other):
        return self.key <= _as_expression(other).key


class Leaf(Expression):
    """A part of a path kind; its turn is 1 along, -1 against, 0 if the kind is not directed."""

    def __init__(self, kind, value, *controls, turn=1):
        if not isinstance(kind, PathKind):
            raise InvalidKind(kind)
        worth = value_of(value)
        if not are_names(controls, len(kind.controls)):
            raise InvalidPins(controls)
        if not is_whole(turn) or turn not in (1, -1):
            raise InvalidNumber(turn)
        self.kind = kind
        self.controls = controls
        self.turn = turn if kind.DIRECTED else 0
        self.shape = f"<{kind.text} {self.turn}>"
        self.details = " ".join([str(worth), *controls])
        self.key = f"{self.shape} {self.details}"
        self.control_nets = controls
        self.worths = (worth,)
        self.has_turns = self.turn != 0
        self._head = f"{self.shape} {worth}"

    @property
    def value(self):
        """The value, a ratio; no attribute, as a part's value is a property that can be set."""
        return self.worths[0]

    def leaves(self):
        """The leaf itself."""
        yield self

    def mapped(self, nets):
        """The leaf with control nets replaced by a dict."""
        if not is_net_map(nets):
            raise InvalidPins(nets)
        controls = [nets.get(net, net) for net in self.controls]
        turn = -1 if self.turn < 0 else 1
        return Leaf(self.kind, self.value, *controls, turn=turn)

    def written(self, words):
        """The leaf as a text; it ends at its only semicolon."""
        return " ".join([self._head, *[words[net] for net in self.controls]]) + ";"

    def __neg__(self):
        turn = -self.turn
        return Leaf(self.kind, self.value, *self.controls, turn=turn) if self.has_turns else self


class Row(Expression):
    """Two or more expressions one behind the other."""

    WAY = "row"
    BRACKETS = ("(", ")")


class Bundle(Expression):
    """Two or more expressions side by side."""

    WAY = "side"
    BRACKETS = ("[", "]")


def _as_expression(value):
    if not isinstance(value, Expression):
        raise InvalidForm(value)
    return value


def _composed(way, pieces):
    """The expression of pieces in a row or side by side: opened, joined, and in ascending order."""
    members = [member for piece in pieces for member in _opened(way, piece)]
    bonds = [_bond(way, member) for member in members]
    apart = [member for member, bond in zip(members, bonds) if not bond]
    groups = [[member for member, other in zip(members, bonds) if other == bond]
              for bond in sorted(set([bond for bond in bonds if bond]))]
    left = apart + [_one_leaf(way, group) for group in groups]
    if len(left) == 1:
        return left[0]
    order = sorted(set([(member.key, index) for index, member in enumerate(left)]))
    ordered = tuple([left[index] for _, index in order])
    return Row(ordered) if way == Row.WAY else Bundle(ordered)


def _opened(way, piece):
    """The members of a piece that is itself of this way, otherwise the piece alone."""
    return list(piece.members) if piece.WAY == way else [piece]


def _bond(way, member):
    """What leaves that are joined have in common; an empty text for members that are never joined."""
    if not isinstance(member, Leaf) or not isinstance(member.kind, JoiningKind):
        return ""
    return " ".join([member.shape, *member.controls]) if way in member.kind.rules() else ""


def _one_leaf(way, leaves):
    """One leaf for some that agree in kind, control nets and turn."""
    first = leaves[0]
    rule = first.kind.rules()[way]
    values = [leaf.value for leaf in leaves]
    value = rule.all_of(*values)
    turn = -1 if first.turn < 0 else 1
    return Leaf(first.kind, value, *first.controls, turn=turn)
