"""Refutations: papers which show that two forms have no matching."""

from wishedwires.checks import is_whole
from wishedwires.colours import difference, first_colours, item_prints, net_marks, net_signs, next_colours
from wishedwires.colours import number_of_colours, numbered, tally, trail
from wishedwires.matching import carried, check_limits, first_exchange, is_matching, matching


def refutation(one, other):
    """A refutation of two forms, or None if they are alike."""
    return compared(one, other)[1]


def compared(one, other):
    """The first matching of two forms and None; or None and a refutation."""
    check_limits(one, other)
    lacking = _lacking_names(one, other)
    if lacking:
        return None, ("ports", lacking[0])
    colourings, paper = _refuted_by_rounds(one, other, first_colours(one, other))
    if paper is not None:
        return None, paper
    found = matching(one, other)
    return (found, None) if found is not None else (None, _tried(one, other, [], colourings[-1]))


def refuted_without_names(one, other):
    """A refutation of two forms that holds whatever the names of their ports are, or None if rounds find none.

    The rounds begin with how many ports are on each net: nets with equal marks have equal numbers.
    """
    counts = []
    for form in (one, other):
        ported = tally(list(form.ports.values()))
        counts.append({net: ported.get(net, 0) for net in form.all_nets()})
    return _refuted_by_rounds(one, other, numbered(counts))[1]


def copied_refutation(paper):
    """An equal refutation with dicts of its own; None for None."""
    if paper is None or paper[0] == "ports":
        return paper
    if paper[0] == "try":
        return ("try", paper[1], tuple([(there, copied_refutation(told)) for there, told in paper[2]]))
    return ("rounds", tuple([(dict(mine), dict(theirs)) for mine, theirs in paper[1]]), paper[2])


def lets_refutation(one, other, paper):
    """Whether any value is a refutation of two forms."""
    check_limits(one, other)
    return _holds(one, other, [], paper)


def lets_matching(one, other, nets, ids=None):
    """Whether any two values are the two dicts of a matching; with None for ids, whether some fit the nets."""
    check_limits(one, other)
    if ids is None:
        return carried(one, other, nets) is not None
    return is_matching(one, other, nets, ids)


def _lacking_names(one, other):
    """The names of the ports that only one of the forms has, ascending."""
    mine, theirs = one.ports, other.ports
    lacking = [name for name in mine if name not in theirs] + [name for name in theirs if name not in mine]
    return sorted(lacking, key=str)


def _refuted(one, other, pairs):
    """A refutation of forms that have no matching with these fixed pairs."""
    colourings, paper = _refuted_by_rounds(one, other, first_colours(one, other, pairs))
    return _tried(one, other, pairs, colourings[-1]) if paper is None else paper


def _refuted_by_rounds(one, other, colours):
    """The list of the colourings of rounds that begin with one, and a paper if the last of them shows a difference."""
    colourings = [colours]
    found = difference(one, other, colours)
    while found is None:
        following = next_colours(one, other, colourings[-1])
        if number_of_colours(following) == number_of_colours(colourings[-1]):
            return colourings, None
        colourings.append(following)
        found = difference(one, other, following)
    return colourings, ("rounds", tuple(colourings), found)


def _tried(one, other, pairs, colours):
    """A refutation that tries to carry a net to each net that is free; colours are settled and show no difference.

    What refutes a net by further tries also refutes the nets to which exchanges carry it, with their names in it.
    """
    net = _telling_net(one, other, colours)
    fixed = [there for _, there in pairs]
    branches = []
    for there in [free for free in other.all_nets() if free not in fixed]:
        paper = None
        for known, told in branches:
            if paper is None and told[0] == "try" and colours[1][known] == colours[1][there]:
                carrier = first_exchange(other, (colours[1], colours[1]), known, there)
                paper = None if carrier is None else _carried_over(one, other, told, carrier)
        branches = [*branches, (there, paper or _refuted(one, other, [*pairs, (net, there)]))]
    return ("try", net, tuple(branches))


def _carried_over(one, other, paper, carrier):
    """A refutation in which an exchange of other has replaced its nets."""
    if paper[0] == "try":
        branches = {carrier(there): _carried_over(one, other, told, carrier) for there, told in paper[2]}
        return ("try", paper[1], tuple([(there, branches[there]) for there in sorted(branches, key=str)]))
    moved = [numbered((mine, {carrier(net): colour for net, colour in theirs.items()})) for mine, theirs in paper[1]]
    return ("rounds", tuple(moved), difference(one, other, moved[-1]))


def _telling_net(one, other, colours):
    """A net of one that the rounds tell apart from as many nets of other as can be, of those of its colour.

    If any net were tried, a try that tells nothing might stand there, and all that follows for each of its mates.
    """
    counts = tally(list(colours[0].values()))
    trails = [trail(other, colours[1], net) for net in other.all_nets() if counts[colours[1][net]] > 1]
    best, left, many = "", 1, 0
    for net in one.all_nets():
        peers = counts[colours[0][net]]
        if peers > 1:
            unrefuted = trails.count(trail(one, colours[0], net))
            if unrefuted * many < left * peers or many == 0:
                best, left, many = net, unrefuted, peers
    return best


def _holds(one, other, pairs, paper):
    """Whether any value is a refutation with these fixed pairs."""
    if not isinstance(paper, tuple) or len(paper) < 2:
        return False
    if paper[0] == "ports" and len(paper) == 2:
        return isinstance(paper[1], str) and paper[1] in _lacking_names(one, other)
    if paper[0] == "rounds" and len(paper) == 3:
        return _are_rounds(one, other, pairs, paper[1]) and _is_difference(one, other, paper[1][-1], paper[2])
    if paper[0] == "try" and len(paper) == 3:
        return _is_try(one, other, pairs, paper[1], paper[2])
    return False


def _is_try(one, other, pairs, net, branches):
    """Whether each way to carry a net that is free is refuted by the branches."""
    if net not in one.all_nets() or net in [fixed for fixed, _ in pairs]:
        return False
    if not isinstance(branches, tuple):
        return False
    if not all([isinstance(row, tuple) and len(row) == 2 for row in branches]):
        return False
    fixed = [there for _, there in pairs]
    if sorted([there for there, _ in branches], key=str) != [there for there in other.all_nets() if there not in fixed]:
        return False
    return all([_holds(one, other, [*pairs, (net, there)], paper) for there, paper in branches])


def _are_rounds(one, other, pairs, colourings):
    """Whether any value is a tuple of colourings in which nets that must have the same colour do."""
    if not isinstance(colourings, tuple) or len(colourings) == 0:
        return False
    if not all([_is_colouring(one, other, colours) for colours in colourings]):
        return False
    if not _have_one_colour(net_marks(one, other, pairs), colourings[0]):
        return False
    for before, colours in zip(colourings, colourings[1:]):
        if not _have_one_colour((net_signs(one, before[0]), net_signs(other, before[1])), colours):
            return False
    return True


def _is_colouring(one, other, colours):
    """Whether any value is a tuple of two dicts that give each net of its form, and no other, an integer."""
    if not isinstance(colours, tuple) or len(colours) != 2:
        return False
    for form, side in zip((one, other), colours):
        nets = form.all_nets()
        if not isinstance(side, dict) or len(side) != len(nets) or not all([net in side for net in nets]):
            return False
        if not all([is_whole(colour) for colour in side.values()]):
            return False
    return True


def _have_one_colour(signs, colours):
    """Whether nets of the two forms have the same colour if they have equal signs."""
    mine, theirs = [{signs[side][net]: colours[side][net] for net in signs[side]} for side in (0, 1)]
    for side, opposite in ((0, theirs), (1, mine)):
        for net, sign in signs[side].items():
            if sign in opposite and opposite[sign] != colours[side][net]:
                return False
    return True


def _is_difference(one, other, colours, told):
    """Whether any value is a difference under a colouring."""
    if not isinstance(told, tuple) or len(told) not in (2, 3) or not is_whole(told[1]):
        return False
    if told[0] == "net" and len(told) == 2:
        return _differ([list(side.values()) for side in colours], told[1])
    if told[0] != "item" or len(told) != 3 or told[1] not in (0, 1):
        return False
    prints = [item_prints(form, side) for form, side in zip((one, other), colours)]
    name = told[2]
    if not isinstance(name, str) or name not in prints[told[1]]:
        return False
    return _differ([list(side.values()) for side in prints], prints[told[1]][name])


def _differ(sides, value):
    """Whether two lists have a value unlike numbers of times."""
    return sides[0].count(value) != sides[1].count(value)
