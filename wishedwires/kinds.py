"""Kinds of parts: their pins, which of these may be exchanged, and how values are joined."""

from wishedwires.checks import are_different_words, is_word
from wishedwires.errors import InvalidKind, InvalidName
from wishedwires.rules import ValueRule

MOST_PINS = 6
MOST_CONTROLS = 3


class Kind:
    """The base of all kinds; a class below fills in the pins, the orders and the line of text."""

    DIRECTED = False

    def __init__(self, name):
        if not is_word(name):
            raise InvalidName(name)
        self.name = name
        self.pins = ()
        self.controls = ()
        self.is_path = False
        self.orders = ((),)
        self._line = f"kind {name}"

    def exchanges(self):
        """The exchanges, ascending."""
        for order in self.orders:
            yield order

    def first_writing(self, words):
        """The first tuple, in the order of tuples, that the words at the pins become under the exchanges."""
        return sorted(set([tuple([words[index] for index in order]) for order in self.orders]))[0]

    @property
    def text(self):
        """The line that tells this kind in a circuit's text."""
        return self._line

    def __eq__(self, other):
        return isinstance(other, Kind) and self.text == other.text


class PinKind(Kind):
    """A kind whose pins may be exchanged within groups."""

    def __init__(self, name, *pins, swaps=()):
        super().__init__(name)
        if not 1 <= len(pins) <= MOST_PINS or not are_different_words(pins):
            raise InvalidKind(pins)
        if not _are_groups(swaps, pins):
            raise InvalidKind(swaps)
        self.pins = pins
        groups = [[pin for pin in pins if pin in group] for group in swaps]
        self._groups = [[pins.index(pin) for pin in group] for group in groups]
        self.orders = _orders([_mates(pin, pins, groups) for pin in pins])
        # The first pins of the groups, in the order of the kind's pins, give the groups' order.
        ordered = [group for pin in pins for group in groups if group[0] == pin]
        self._line = _worded(["pins", name, *pins], " , ".join([" ".join(group) for group in ordered]))

    def first_writing(self, words):
        """The same as in the base, which would try up to 720 orders: the words sorted within each group."""
        placed = list(words)
        for group in self._groups:
            for index, word in zip(group, sorted([words[index] for index in group], key=str)):
                placed[index] = word
        return tuple(placed)


class PathKind(Kind):
    """A kind with a path from pin a to pin b, and control pins beside it."""

    def __init__(self, name, *controls):
        super().__init__(name)
        if len(controls) > MOST_CONTROLS or not are_different_words(("a", "b", *controls)):
            raise InvalidKind(controls)
        self.pins = ("a", "b", *controls)
        self.controls = controls
        self.is_path = True
        along = tuple(range(len(self.pins)))
        self.orders = (along,) if self.DIRECTED else (along, (1, 0) + along[2:])
        self._line = _path_line(self, {})


class DirectedKind(PathKind):
    """A path kind whose pins a and b are not exchanged."""

    DIRECTED = True


class JoiningKind(PathKind):
    """A path kind with rules for values in a row and side by side."""

    def __init__(self, name, *controls, row=None, side=None):
        super().__init__(name, *controls)
        given = {"row": _as_rule(row), "side": _as_rule(side)}
        self._rules = {way: rule for way, rule in given.items() if rule is not None}
        self._line = _path_line(self, self._rules)

    def rules(self):
        """A dict from "row" and "side" to the rules that there are."""
        return dict(self._rules)


class DirectedJoiningKind(JoiningKind, DirectedKind):
    """A directed path kind with rules."""


def _as_rule(value):
    """A rule or the word of one as a rule, None as it is."""
    if value is None:
        return None
    return ValueRule(value.word if isinstance(value, ValueRule) else value)


def _are_groups(swaps, pins):
    """Whether swaps is a tuple of tuples of two or more of the pins, none of them twice."""
    if not isinstance(swaps, tuple):
        return False
    if not all([isinstance(group, tuple) and len(group) >= 2 for group in swaps]):
        return False
    grouped = [pin for group in swaps for pin in group]
    return are_different_words(grouped) and all([pin in pins for pin in grouped])


def _mates(pin, pins, groups):
    """The indices, ascending, of the pins whose places a pin may take."""
    mates = [mate for group in groups if pin in group for mate in group]
    return [index for index, other in enumerate(pins) if other == pin or other in mates]


def _orders(choices):
    """All tuples of different indices, each from the choices for its place, ascending."""
    orders = [()]
    for indices in choices:
        orders = [(*order, index) for order in orders for index in indices if index not in order]
    return tuple(orders)


def _path_line(kind, rules):
    """The line of a path kind with these rules."""
    words = ["directed"] if kind.DIRECTED else []
    ruled = [word for way in ("row", "side") if way in rules for word in (way, rules[way].word)]
    return _worded(["path", kind.name, *kind.controls], " ".join([*words, *ruled]))


def _worded(words, tail):
    """Words and, behind a colon, what follows them; no colon ahead of nothing."""
    return " ".join([*words, ":", tail] if tail else words)
