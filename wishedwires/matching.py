"""Matchings of two forms."""

from wishedwires.colours import first_colours, item_prints, number_of_colours, settled, tally, trail
from wishedwires.errors import InvalidMatching, LimitExceeded, UnknownName

MOST_ITEMS = 12
MOST_NETS = 24


class Matching:
    """A map of nets and a map of ids, each of them one-to-one."""

    def __init__(self, nets, ids):
        if not _is_one_to_one(nets):
            raise InvalidMatching(nets)
        if not _is_one_to_one(ids):
            raise InvalidMatching(ids)
        self._net_map = dict(nets)
        self._id_map = dict(ids)
        self._pairs = [(net, nets[net]) for net in sorted(nets, key=str)]
        self.is_identity = all([one == other for told in (nets, ids) for one, other in told.items()])

    @staticmethod
    def identity(form):
        """The matching of a form with itself that carries each net and each id to itself."""
        return Matching({net: net for net in form.all_nets()}, {item.id: item.id for item in form.entries})

    def __call__(self, net):
        if not isinstance(net, str) or net not in self._net_map:
            raise UnknownName(net)
        return self._net_map[net]

    def id_of(self, name):
        """The id to which an id is carried."""
        if not isinstance(name, str) or name not in self._id_map:
            raise UnknownName(name)
        return self._id_map[name]

    def net_map(self):
        """A new dict of the nets."""
        return dict(self._net_map)

    def id_map(self):
        """A new dict of the ids."""
        return dict(self._id_map)

    def power(self, k):
        """This matching multiplied by itself k times."""
        if not _follow(self._net_map, self._net_map) or not _follow(self._id_map, self._id_map):
            raise InvalidMatching(k)
        return Matching(_power(self._net_map, k), _power(self._id_map, k))

    def __mul__(self, other):
        if not isinstance(other, Matching):
            raise InvalidMatching(other)
        if not _follow(self._net_map, other._net_map) or not _follow(self._id_map, other._id_map):
            raise InvalidMatching(other)
        nets = {net: other._net_map[there] for net, there in self._net_map.items()}
        return Matching(nets, {name: other._id_map[there] for name, there in self._id_map.items()})

    def __invert__(self):
        nets = {there: net for net, there in self._net_map.items()}
        return Matching(nets, {there: name for name, there in self._id_map.items()})

    def __iter__(self):
        return iter(self._pairs)

    def __len__(self):
        return len(self._net_map)

    def __eq__(self, other):
        return isinstance(other, Matching) and self._net_map == other._net_map and self._id_map == other._id_map


def carried(one, other, nets):
    """The first map of ids with which nets is a matching, or None."""
    check_limits(one, other)
    if not _carries_nets(one, other, nets):
        return None
    choices = _equal_ids(one, other, nets)
    if choices is None:
        return None
    for ids in _id_maps(choices, {}):
        return ids
    return None


def matchings(one, other):
    """All matchings of two forms, in their order."""
    check_limits(one, other)
    colours = start_colours(one, other)
    if colours is not None:
        for nets in net_maps(one, other, colours, {}):
            choices = _equal_ids(one, other, nets)
            for ids in _id_maps(choices, {}):
                yield Matching(nets, ids)


def matching(one, other):
    """The first matching, or None."""
    for found in matchings(one, other):
        return found
    return None


def alike(one, other):
    """Whether two forms have a matching."""
    return matching(one, other) is not None


def check_limits(one, other):
    """LimitExceeded if a form has more items, or otherwise more nets, than are searched."""
    items = max(len(one), len(other))
    if items > MOST_ITEMS:
        raise LimitExceeded(items)
    nets = max(len(one.all_nets()), len(other.all_nets()))
    if nets > MOST_NETS:
        raise LimitExceeded(nets)


def is_matching(one, other, nets, ids):
    """Whether any two values are the two dicts of a matching."""
    if not _carries_nets(one, other, nets):
        return False
    mine, theirs = item_prints(one, nets), item_prints(other, _to_itself(other))
    return _is_map_onto(ids, list(mine), list(theirs)) and all([mine[name] == theirs[ids[name]] for name in mine])


def start_colours(one, other):
    """The settled colouring with which a search begins, or None if it shows that there is no matching.

    Nets are told apart by their trails, too, so that one ring of ten and two of five are unlike here already.
    """
    colours = settled(one, other, first_colours(one, other))
    if colours is None:
        return None
    counts = tally(list(colours[0].values()))
    alone = [colour for colour in counts if counts[colour] == 1]
    told = [{net: [side[net]] if side[net] in alone else [side[net], *trail(form, side, net)] for net in side}
            for form, side in zip((one, other), colours)]
    seen = []
    for sign in list(told[0].values()) + list(told[1].values()):
        if sign not in seen:
            seen.append(sign)
    return settled(one, other, tuple([{net: seen.index(signs[net]) for net in signs} for signs in told]))


def mates(other, colours, net):
    """The nets of the other form, ascending, that have the colour of a net of the first one."""
    return [there for there in other.all_nets() if colours[1][there] == colours[0][net]]


def told_apart(one, other, colours, net, there):
    """The settled colouring in which a net and its mate are told apart from all others; None if a difference shows."""
    if len(mates(other, colours, net)) == 1:
        return colours
    apart = number_of_colours(colours)
    return settled(one, other, ({**colours[0], net: apart}, {**colours[1], there: apart}))


def net_maps(one, other, colours, nets):
    """The net maps of all matchings that begin with nets, in their order.

    The colours are settled, and the nets and their places are told apart in them.
    """
    names = one.all_nets()
    if len(nets) == len(names):
        yield nets
        return
    net = names[len(nets)]
    for there in mates(other, colours, net):
        following = told_apart(one, other, colours, net, there)
        if following is not None:
            longer = {**nets, net: there}
            yield from net_maps(one, other, following, longer)


def first_exchange(form, colours, net, place):
    """The first exchange that carries a net to a place and keeps what is told apart in the colours, or None."""
    following = told_apart(form, form, colours, net, place)
    if following is None:
        return None
    for nets in net_maps(form, form, following, {}):
        return Matching(nets, carried(form, form, nets))
    return None


def _id_maps(choices, ids):
    """All one-to-one choices that begin with these ids, in their order; equal ids have equal choices."""
    names = list(choices)
    if len(ids) == len(names):
        yield ids
        return
    name = names[len(ids)]
    taken = list(ids.values())
    for there in choices[name]:
        if there not in taken:
            longer = {**ids, name: there}
            yield from _id_maps(choices, longer)


def _equal_ids(one, other, nets):
    """For each id of one, ascending, the ids of the items to which its item is equal with nets replaced, ascending.

    None if some items are equal to more items, or less, than they are themselves.
    """
    mine, theirs = item_prints(one, nets), item_prints(other, _to_itself(other))
    if sorted(list(mine.values()), key=str) != sorted(list(theirs.values()), key=str):
        return None
    return {name: [there for there in theirs if theirs[there] == mine[name]] for name in mine}


def _carries_nets(one, other, nets):
    """Whether any value is a map of all nets, one-to-one, that carries ports to ports of their names."""
    if not _is_map_onto(nets, one.all_nets(), other.all_nets()):
        return False
    return {name: nets[net] for name, net in one.ports.items()} == other.ports


def _is_map_onto(told, names, others):
    """Whether any value is a dict that carries the one sorted list, of different texts, one-to-one onto the other."""
    if not isinstance(told, dict) or len(told) != len(names) or not all([name in told for name in names]):
        return False
    return sorted(list(told.values()), key=str) == others


def _to_itself(form):
    return {net: net for net in form.all_nets()}


def _is_one_to_one(told):
    """Whether any value is a dict of texts to different texts."""
    if not isinstance(told, dict):
        return False
    places = list(told.values())
    return all([isinstance(text, str) for text in [*told, *places]]) and len(set(places)) == len(places)


def _follow(told, following):
    """Whether a map begins exactly where another one ends."""
    return sorted(list(told.values()), key=str) == sorted(following, key=str)


def _power(told, k):
    """A one-to-one map onto its own keys, done k times: so many places on in each of its cycles."""
    places = {}
    for first in told:
        if first not in places:
            cycle = [first]
            while told[cycle[-1]] != first:
                cycle.append(told[cycle[-1]])
            for index, name in enumerate(cycle):
                places[name] = cycle[(index + k) % len(cycle)]
    return places
