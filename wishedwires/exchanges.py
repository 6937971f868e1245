"""Exchanges of a form: its matchings with itself, told by generators."""

from wishedwires.errors import InvalidMatching
from wishedwires.matching import Matching, check_limits, first_exchange, is_matching, mates, start_colours, told_apart


class Exchanges:
    """All exchanges of a form.

    They are told by levels: net by net in ascending order, then id by id. A level has, for each place to which an
    exchange that keeps the nets (and ids) of all levels before carries its net (or id), one generator that does so.
    So each exchange is the product of at most one generator of each level, those of the last level first.
    """

    def __init__(self, form):
        check_limits(form, form)
        self._form = form
        net_levels, id_levels = _net_levels(form), _id_levels(form)
        told = [(level, place) for level, (_, carriers) in enumerate(net_levels + id_levels) for place in carriers]
        self.generators = tuple([carriers[place] for _, carriers in net_levels + id_levels for place in carriers])
        self._numbers = {seat: index for index, seat in enumerate(told)}
        self._nets = [net for net, _ in net_levels]
        self._ids = [name for name, _ in id_levels]
        self.many = 1
        for _, carriers in net_levels + id_levels:
            self.many = self.many * (len(carriers) + 1)

    def factors(self, m):
        """The indices of generators whose product is an exchange."""
        if m not in self:
            raise InvalidMatching(m)
        indices = []
        left = m
        for level, net in enumerate(self._nets):
            if left(net) != net:
                indices = [self._numbers[(level, left(net))], *indices]
                left = left * ~self.generators[indices[0]]
        for level, name in enumerate(self._ids, start=len(self._nets)):
            if left.id_of(name) != name:
                indices = [self._numbers[(level, left.id_of(name))], *indices]
                left = left * ~self.generators[indices[0]]
        return indices

    def chain(self):
        """Each net, ascending, with the nets to which exchanges that keep all nets before it carry it."""
        for level, net in enumerate(self._nets):
            yield (net, [place for place in self._nets if place == net or (level, place) in self._numbers])

    def net_classes(self):
        """The lists of the nets that exchanges carry to one another."""
        return _classes(self._nets, [m.net_map() for m in self.generators])

    def id_classes(self):
        """The lists of the ids that exchanges carry to one another."""
        return _classes(self._ids, [m.id_map() for m in self.generators])

    def __contains__(self, x):
        return isinstance(x, Matching) and is_matching(self._form, self._form, x.net_map(), x.id_map())

    def __iter__(self):
        return iter(self.generators)

    def __len__(self):
        return len(self.generators)


def _net_levels(form):
    """For each net, ascending, the net and a dict from the further places of its level to exchanges.

    The last level is found first: what its exchanges make of a place of an earlier level needs no search then.
    """
    nets = form.all_nets()
    colourings = [start_colours(form, form)]
    for net in nets:
        colourings.append(told_apart(form, form, colourings[-1], net, net))
    levels = []
    movers = []
    for index in reversed(range(len(nets))):
        reached, found = _level(form, colourings[index], nets[index], movers)
        movers = movers + found
        levels = [(nets[index], {place: reached[place] for place in nets[index + 1:] if place in reached}), *levels]
    return levels


def _level(form, colours, net, movers):
    """A dict from the places of a net to exchanges that carry it there, and the list of those that were searched for.

    All of them keep the nets that are told apart in the colours; movers are exchanges that keep this net, too.
    """
    reached = {net: Matching.identity(form)}
    found = []
    barred = []
    for place in mates(form, colours, net):
        if place in reached or place in barred:
            continue
        carrier = first_exchange(form, colours, net, place)
        if carrier is None:
            barred = barred + _orbit(place, [mover.net_map() for mover in movers + found])
        else:
            found.append(carrier)
            reached = _spread(reached, movers + found)
    return reached, found


def _spread(reached, movers):
    """A dict of places with, for each, what carries a net there, enlarged by all to which movers carry the places."""
    carriers = dict(reached)
    waiting = list(reached)
    while waiting:
        place = waiting.pop()
        for mover in movers:
            if mover(place) not in carriers:
                carriers[mover(place)] = carriers[place] * mover
                waiting.append(mover(place))
    return carriers


def _id_levels(form):
    """For each id, ascending, the id and a dict from the later ids of equal items to the exchanges of the two."""
    names = sorted([item.id for item in form.entries], key=str)
    keep = Matching.identity(form)
    levels = []
    for name in names:
        equal = [other for other in names if name < other and form.item_of(name) == form.item_of(other)]
        swaps = {other: {**keep.id_map(), name: other, other: name} for other in equal}
        levels.append((name, {other: Matching(keep.net_map(), swaps[other]) for other in equal}))
    return levels


def _classes(names, maps):
    """The orbits of sorted names, each sorted, by their first names."""
    orbits = [_orbit(name, maps) for name in names]
    return [orbit for name, orbit in zip(names, orbits) if orbit[0] == name]


def _orbit(name, maps):
    """The sorted names to which maps, done one after the other, carry a name."""
    orbit = [name]
    waiting = [name]
    while waiting:
        at = waiting.pop()
        for told in maps:
            if told[at] not in orbit:
                orbit.append(told[at])
                waiting.append(told[at])
    return sorted(orbit, key=str)
