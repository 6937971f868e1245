"""Colourings of the nets of two forms, refined in rounds."""

from wishedwires.errors import UnknownName


def first_colours(one, other, pairs=()):
    """The first colouring under fixed pairs."""
    _check_pairs(one, other, pairs)
    return numbered(net_marks(one, other, pairs))


def next_colours(one, other, colours):
    """The colouring that follows after any colouring of all nets."""
    return numbered((net_signs(one, colours[0]), net_signs(other, colours[1])))


def rounds(one, other, pairs=()):
    """The colourings of the rounds."""
    colours = first_colours(one, other, pairs)
    yield _copied(colours)
    following = next_colours(one, other, colours)
    while number_of_colours(following) > number_of_colours(colours):
        colours = following
        yield _copied(colours)
        following = next_colours(one, other, colours)


def difference(one, other, colours):
    """The first difference under any colouring of all nets, or None."""
    return net_difference(colours) or item_difference(one, other, colours)


def net_difference(colours):
    """The first difference that is one of nets, or None."""
    counts = [tally(list(side.values())) for side in colours]
    for colour in sorted(set([*counts[0], *counts[1]])):
        if counts[0].get(colour, 0) != counts[1].get(colour, 0):
            return ("net", colour)
    return None


def item_difference(one, other, colours):
    """The first difference that is one of items, or None."""
    prints = [item_prints(form, side) for form, side in zip((one, other), colours)]
    counts = [tally(list(side.values())) for side in prints]
    for side in (0, 1):
        for name, told in prints[side].items():
            if counts[0].get(told, 0) != counts[1].get(told, 0):
                return ("item", side, name)
    return None


def settled(one, other, colours):
    """The colouring that is left when nets are told apart as in the rounds; None if a difference shows.

    A net that is alone with its colour is not looked at: if its touches tell something, the prints tell it, too.
    """
    while net_difference(colours) is None:
        counts = tally(list(colours[0].values()))
        alone = [colour for colour in counts if counts[colour] == 1]
        following = numbered((net_signs(one, colours[0], alone), net_signs(other, colours[1], alone)))
        if number_of_colours(following) == number_of_colours(colours):
            return colours if item_difference(one, other, colours) is None else None
        colours = following
    return None


def net_marks(one, other, pairs):
    """The marks of the nets of both forms: two dicts."""
    return tuple([_marks(form, [pair[side] for pair in pairs]) for side, form in enumerate((one, other))])


def net_signs(form, colours, alone=()):
    """For each net its colour and its touches, which are what the next colouring looks at.

    Nets of a colour in alone are told without touches.
    """
    words = {net: str(colours[net]) for net in form.all_nets()}
    touches = {net: [] for net in words}
    for item in form.entries:
        for net in sorted(set(item.slots)):
            if colours[net] not in alone:
                touches[net].append(item.written({**words, net: words[net] + "*"}))
    return {net: (colours[net], tuple(sorted(touches[net], key=str))) for net in touches}


def item_prints(form, colours):
    """The prints of a form's items, by ids in ascending order."""
    words = {net: str(colour) for net, colour in colours.items()}
    return {name: form.item_of(name).written(words) for name in sorted([item.id for item in form.entries], key=str)}


def trail(form, colours, net):
    """What a form's rounds tell if a net is told apart; equal for nets that the rounds do not tell from one another."""
    side = {**colours, net: -1}
    told = []
    counts = tally(list(side.values()))
    many = 0
    while len(counts) > many:
        many = len(counts)
        signs = net_signs(form, side, [colour for colour in counts if counts[colour] == 1])
        told.append(tally(list(signs.values())))
        order = sorted(set(list(signs.values())))
        side = {there: order.index(signs[there]) for there in signs}
        counts = tally(list(side.values()))
    return [*told, tally(list(item_prints(form, side).values()))]


def tally(values):
    """How often each value stands in a list."""
    counts = {}
    for value in values:
        counts[value] = counts.get(value, 0) + 1
    return counts


def _check_pairs(one, other, pairs):
    """UnknownName with the first net in the pairs that its form does not have."""
    nets = (one.all_nets(), other.all_nets())
    for pair in pairs:
        for net, there in zip(pair, nets):
            if net not in there:
                raise UnknownName(net)


def _marks(form, fixed):
    """The mark of each net: the ports on it, and where it stands in a list of nets."""
    ports = form.ports
    names, places = {}, {}
    for name in sorted(ports, key=str):
        names[ports[name]] = (*names.get(ports[name], ()), name)
    for index, net in enumerate(fixed):
        places[net] = (*places.get(net, ()), index)
    return {net: (names.get(net, ()), places.get(net, ())) for net in form.all_nets()}


def numbered(signs):
    """A colouring in which nets have the same colour exactly if they have equal signs."""
    numbers = {}
    for side in signs:
        for net in sorted(side, key=str):
            numbers[side[net]] = numbers.get(side[net], len(numbers))
    return tuple([{net: numbers[side[net]] for net in side} for side in signs])


def _copied(colours):
    return (dict(colours[0]), dict(colours[1]))


def number_of_colours(colours):
    """How many colours the nets of both forms have."""
    return len(set(list(colours[0].values()) + list(colours[1].values())))
