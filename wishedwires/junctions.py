"""Pairs of names: as many as possible apart, and as few names as possible that touch all."""


def greatest_pairs(pairs):
    """A sorted tuple of as many of the pairs as possible, no two with an equal first or an equal second name."""
    return tuple(sorted(set([(first, second) for first, second in _greatest(pairs).items()])))


def touching_set(pairs):
    """Two sorted tuples of first and second names, as few as possible, of which each pair has one.

    By Koenig's theorem: the second names that alternating paths reach from first names without a pair, and the first
    names that they do not reach.
    """
    seconds = _second_names(pairs)
    kept = _greatest(pairs)
    reached = _reached([first for first in seconds if first not in kept], seconds, kept)
    firsts = [first for first in sorted(kept, key=str) if kept[first] not in reached]
    return (tuple(firsts), tuple(sorted(reached, key=str)))


def _greatest(pairs):
    """As many pairs as possible as a dict, enlarged by one first name after the other."""
    seconds = _second_names(pairs)
    kept = {}
    for first in seconds:
        came = _reached([first], seconds, kept)
        taken = list(kept.values())
        free = [second for second in came if second not in taken]
        if free:
            kept = {**kept, **_path(first, free[0], came, kept)}
    return kept


def _second_names(pairs):
    """A dict from the first names, ascending, to the lists of their second names, ascending."""
    seconds = {}
    for first, second in sorted(set(pairs)):
        seconds[first] = [*seconds.get(first, []), second]
    return seconds


def _reached(firsts, seconds, kept):
    """The second names that are reached from first names, each with the first name ahead of it.

    From a second name with a kept pair the first name of this pair is reached.
    """
    owners = {second: first for first, second in kept.items()}
    came = {}
    waiting = list(firsts)
    while waiting:
        first = waiting.pop(0)
        for second in seconds[first]:
            if second not in came:
                came[second] = first
                if second in owners:
                    waiting.append(owners[second])
    return came


def _path(start, second, came, kept):
    """The pairs that take the place of kept ones on the way back from a second name to a start without a pair."""
    path = {}
    first = came[second]
    while first != start:
        path[first] = second
        second = kept[first]
        first = came[second]
    return {**path, first: second}
