"""Pairings of a wished and a drawn form, and what they cost."""

from wishedwires.checks import is_whole
from wishedwires.colours import tally
from wishedwires.errors import InvalidForm, InvalidPrices, InvalidWay, NameInUse, UnknownName
from wishedwires.junctions import greatest_pairs
from wishedwires.matching import Matching
from wishedwires.ratios import Ratio
from wishedwires.ways import ways


class Prices:
    """What differences cost, each at least 1."""

    def __init__(self, *, lost=1, surplus=1, value=1, junction=1):
        self._lost = _checked_price("lost", lost)
        self._surplus = _checked_price("surplus", surplus)
        self._value = _checked_price("value", value)
        self._junction = _checked_price("junction", junction)

    @property
    def lost(self):
        """The price of a wished item without a partner."""
        return self._lost

    @lost.setter
    def lost(self, value):
        self._lost = _checked_price("lost", value)

    @property
    def surplus(self):
        """The price of a drawn item without a partner."""
        return self._surplus

    @surplus.setter
    def surplus(self, value):
        self._surplus = _checked_price("surplus", value)

    @property
    def value(self):
        """The price of an unlike value."""
        return self._value

    @value.setter
    def value(self, value):
        self._value = _checked_price("value", value)

    @property
    def junction(self):
        """The price of a wrong junction."""
        return self._junction

    @junction.setter
    def junction(self, value):
        self._junction = _checked_price("junction", value)

    def change(self, name, price):
        """Sets a price by its name."""
        if name == "lost":
            self._lost = _checked_price(name, price)
        elif name == "surplus":
            self._surplus = _checked_price(name, price)
        elif name == "value":
            self._value = _checked_price(name, price)
        elif name == "junction":
            self._junction = _checked_price(name, price)
        else:
            raise InvalidPrices(name)

    def copied(self):
        """Equal new prices."""
        return Prices(lost=self._lost, surplus=self._surplus, value=self._value, junction=self._junction)

    def __eq__(self, other):
        if not isinstance(other, Prices):
            return False
        return (self._lost == other._lost and self._surplus == other._surplus and self._value == other._value
                and self._junction == other._junction)


class Pairing:
    """Some wished items, each with a drawn partner and a way to it."""

    def __init__(self, wished, drawn, prices=None):
        if sorted(wished.ports, key=str) != sorted(drawn.ports, key=str):
            raise InvalidForm(drawn)
        self.wished = wished
        self.drawn = drawn
        self.prices = Prices() if prices is None else prices.copied()
        self._wished_ids = _ids_of(wished)
        self._drawn_ids = _ids_of(drawn)
        self._take({})

    def leave(self, name):
        """Takes away the pair of a wished item."""
        if name not in self:
            raise UnknownName(name)
        self._take({other: pair for other, pair in self._partners.items() if other != name})

    def paired(self):
        """The sorted list of the wished ids with a partner."""
        return sorted(self._partners, key=str)

    @property
    def meetings(self):
        """The pairs of a wished and a drawn net that meet."""
        return self._meetings

    @property
    def kept(self):
        """As many meetings as possible, no two with one net."""
        return self._kept

    @property
    def wrong(self):
        """How many meetings are wrong junctions."""
        return len(self._meetings) - len(self._kept)

    @property
    def lost_ids(self):
        """The wished ids without a partner."""
        return tuple([name for name in self._wished_ids if name not in self._partners])

    @property
    def surplus_ids(self):
        """The drawn ids without a partner."""
        taken = [partner for partner, _ in self._partners.values()]
        return tuple([name for name in self._drawn_ids if name not in taken])

    @property
    def revalued(self):
        """The pairs of a wished id and the index of a leaf whose value is not that of the leaf that it stands for."""
        return tuple([(name, index) for name in self.paired() for index in _unlike_leaves(self, name)])

    @property
    def price(self):
        """What all differences cost."""
        return _total(self, len(self.lost_ids), len(self.surplus_ids))

    @property
    def floor(self):
        """What all pairings cost at least that have all of these pairs."""
        wished = tally([item.shape for item in self.wished.entries])
        drawn = tally([item.shape for item in self.drawn.entries])
        lost = sum([max(wished[shape] - drawn.get(shape, 0), 0) for shape in wished])
        return _total(self, lost, sum([max(drawn[shape] - wished.get(shape, 0), 0) for shape in drawn]))

    def copied(self):
        """A new pairing with the same pairs and equal prices."""
        twin = Pairing(self.wished, self.drawn, self.prices)
        twin._take(self._partners)
        return twin

    def matching(self):
        """The matching that the pairing is at a price of 0, otherwise None."""
        if self.price != 0:
            return None
        return Matching(dict(self._kept), {name: partner for name, (partner, _) in self._partners.items()})

    def __getitem__(self, at):
        if at not in self:
            raise UnknownName(at)
        return self._partners[at]

    def __setitem__(self, at, worth):
        if at not in self._wished_ids:
            raise UnknownName(at)
        if not isinstance(worth, tuple) or len(worth) != 2:
            raise InvalidWay(at)
        partner, way = worth
        if partner not in self._drawn_ids:
            raise UnknownName(partner)
        if partner in [other for name, (other, _) in self._partners.items() if name != at]:
            raise NameInUse(partner)
        if way not in ways(self.wished.item_of(at), self.drawn.item_of(partner)):
            raise InvalidWay(at)
        # True is equal to 1, but no index.
        if not all([is_whole(index) for row in way for index in row]):
            raise InvalidWay(at)
        self._take({**self._partners, at: worth})

    def __contains__(self, x):
        return isinstance(x, str) and x in self._partners

    def __iter__(self):
        raise TypeError("a pairing is not iterated over")

    def __len__(self):
        return len(self._partners)

    def _take(self, partners):
        """Takes these pairs in the place of all others; the meetings are found here, so that they stay the same."""
        self._partners = dict(partners)
        self._meetings = _meetings_of(self)
        self._kept = greatest_pairs(list(self._meetings))


def _checked_price(name, price):
    """A price as a ratio; InvalidPrices with its name unless it is a ratio or an integer of at least 1."""
    if not isinstance(price, Ratio) and not is_whole(price):
        raise InvalidPrices(name)
    if price < 1:
        raise InvalidPrices(name)
    return Ratio(1) * price


def _ids_of(form):
    return sorted([item.id for item in form.entries], key=str)


def _meetings_of(pairing):
    """The sorted tuple of the pairs of nets at ports of one name, and at pins that stand for one another."""
    ports = pairing.drawn.ports
    found = [(net, ports[name]) for name, net in pairing.wished.ports.items()]
    for name in pairing.paired():
        partner, (pins, _) = pairing[name]
        slots = pairing.drawn.item_of(partner).slots
        found.extend([(net, slots[pin]) for net, pin in zip(pairing.wished.item_of(name).slots, pins)])
    return tuple(sorted(set(found)))


def _unlike_leaves(pairing, name):
    """The indices of the leaves of a paired item whose values are not those of the leaves that they stand for."""
    partner, (_, leaves) = pairing[name]
    worths = pairing.drawn.item_of(partner).worths
    return [index for index, worth in enumerate(pairing.wished.item_of(name).worths) if worth != worths[leaves[index]]]


def _total(pairing, lost, surplus):
    """What so many lost and surplus items, and the unlike values and wrong junctions of a pairing, cost together."""
    prices = pairing.prices
    items = prices.lost * lost + prices.surplus * surplus
    return items + prices.value * len(pairing.revalued) + prices.junction * pairing.wrong
