"""Pairs of names: as many as possible apart, and as few names as possible that touch all."""


def greatest_pairs(pairs):
    """A sorted tuple of as many of the pairs as possible, no two with an equal first or an equal second name."""
    owners = all_owners(second_names(pairs), {})
    return tuple(sorted(set([(first, second) for second, first in owners.items()])))


def touching_set(pairs):
    """Two sorted tuples of first and second names, as few as possible, of which each pair has one."""
    seconds = second_names(pairs)
    return touched(seconds, all_owners(seconds, {}))


def second_names(pairs):
    """A dict from the first names, ascending, to the tuples of their second names, ascending."""
    seconds = {}
    for first, second in sorted(set(pairs)):
        seconds[first] = (*seconds.get(first, ()), second)
    return seconds


def all_owners(seconds, owners):
    """As many pairs as possible, told as a dict from second names to first ones, grown out of some such pairs."""
    owned = list(owners.values())
    for first in [name for name in seconds if name not in owned]:
        owners = _enlarged(owners, seconds, first)
    return owners


def touched(seconds, owners):
    """The names that touch all pairs, of which there are as many as owners.

    By Koenig's theorem: the second names that alternating paths reach from first names without a pair, and the first
    names that they do not reach.
    """
    owned = list(owners.values())
    waiting = [first for first in seconds if first not in owned]
    reached = {}
    while waiting:
        first = waiting.pop()
        for second in seconds[first]:
            if second not in reached:
                reached[second] = True
                waiting.append(owners[second])
    firsts = [first for second, first in owners.items() if second not in reached]
    return (tuple(sorted(firsts, key=str)), tuple(sorted(reached, key=str)))


def _enlarged(owners, seconds, start):
    """Owners with one more first name, if a path leads from it to a second name without an owner."""
    came, through = {}, {}
    waiting = [start]
    while waiting:
        first = waiting.pop()
        for second in seconds[first]:
            if second not in came:
                came[second] = first
                if second not in owners:
                    return {**owners, **_path(start, second, came, through)}
                through[owners[second]] = second
                waiting.append(owners[second])
    return owners


def _path(start, second, came, through):
    """The owners along the way back from a second name without one to a start."""
    path = {second: came[second]}
    while came[second] != start:
        second = through[came[second]]
        path[second] = came[second]
    return path
