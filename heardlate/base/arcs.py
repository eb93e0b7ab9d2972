"""Arcs: differences between numbers, their ways and rings, and numbers that fulfil them."""

from heapq import heappop, heappush

from heardlate.base.integers import is_between, is_integer
from heardlate.base.names import is_name
from heardlate.errors import InvalidArcs, Refuted, UnknownName

MAX_ARCS = 400


def is_arcs(value):
    """Whether the value is arcs."""
    if not isinstance(value, tuple) or len(value) > MAX_ARCS:
        return False
    return all([_is_arc(arc) for arc in value])


def is_way(arcs, value, *, source, target):
    """Whether the value is a way from the source to the target."""
    _check_arcs(arcs)
    _check_name(arcs, source)
    _check_name(arcs, target)
    if not _is_joined(arcs, value):
        return False
    if len(value) == 0:
        return source == target
    return arcs[value[0]][0] == source and arcs[value[-1]][1] == target


def is_ring(arcs, value):
    """Whether the value is a way that comes back to its begin with a sum below 0."""
    _check_arcs(arcs)
    if not _is_joined(arcs, value) or len(value) == 0:
        return False
    if arcs[value[0]][0] != arcs[value[-1]][1]:
        return False
    return sum([arcs[index][2] for index in value]) < 0


def is_numbers(arcs, value):
    """Whether the value is a dict from exactly the names to integers that fulfils all arcs."""
    _check_arcs(arcs)
    names = _names_of(arcs)
    if not isinstance(value, dict) or len(value) != len(names):
        return False
    if not all([name in value and is_integer(value[name]) for name in names]):
        return False
    return all([value[second] <= value[first] + most for first, second, most in arcs])


def distances(arcs, source):
    """The least sums of the ways from the source, by the names that they reach."""
    _check_arcs(arcs)
    _check_name(arcs, source)
    return _sums_from(arcs, source)


def shortest_way(arcs, source, target):
    """The way with the least sum; of several ones the shortest, of these the smallest; None without a way."""
    _check_arcs(arcs)
    _check_name(arcs, source)
    _check_name(arcs, target)
    reached = _sums_from(arcs, source)
    if target not in reached:
        return None
    ranks = _ranks_to(arcs, reached, target)
    way = []
    name = source
    while name != target:
        index = _first_index(arcs, ranks, name)
        way.append(index)
        name = arcs[index][1]
    return tuple(way)


def numbers_paper(arcs):
    """Numbers that fulfil all arcs, or a ring, which shows that there are none."""
    _check_arcs(arcs)
    numbers, ring = _settled(arcs, {name: 0 for name in _names_of(arcs)})
    if ring is None:
        return "numbers", numbers
    return "ring", ring


def is_numbers_paper(arcs, value):
    """Whether the value shows that there are numbers for the arcs, or that there are none."""
    _check_arcs(arcs)
    if not isinstance(value, tuple) or len(value) != 2:
        return False
    word, shown = value
    if word == "numbers":
        return is_numbers(arcs, shown)
    return word == "ring" and is_ring(arcs, shown)


def closed_arcs(arcs):
    """The least sums of all ways, by the pairs of names that they lead from and to."""
    word, shown = numbers_paper(arcs)
    if word == "ring":
        raise Refuted(shown)
    leaving = _leaving_arcs(arcs, shown)
    closed = {}
    for source in shown:
        heights = _heights_from(leaving, source)
        for name in sorted(heights):
            closed[(source, name)] = heights[name] + shown[name] - shown[source]
    return closed


def _is_arc(value):
    if not isinstance(value, tuple) or len(value) != 3:
        return False
    return is_name(value[0]) and is_name(value[1]) and is_integer(value[2])


def _check_arcs(arcs):
    if not is_arcs(arcs):
        raise InvalidArcs("arcs are a tuple of triples of two names and an integer")


def _check_name(arcs, name):
    if name not in _names_of(arcs):
        raise UnknownName(name)


def _names_of(arcs):
    return sorted({name for arc in arcs for name in arc[:2]})


def _is_joined(arcs, value):
    """Whether the value is a tuple of indices of arcs, each of which begins where the one before it ends."""
    if not isinstance(value, tuple):
        return False
    if not all([is_between(index, 0, len(arcs) - 1) for index in value]):
        return False
    return all([arcs[before][1] == arcs[behind][0] for before, behind in zip(value, value[1:])])


def _sums_from(arcs, source):
    sums, ring = _settled(arcs, {source: 0})
    if ring is not None:
        raise Refuted(ring)
    return sums


def _settled(arcs, begun):
    """The least sums that follow from the begun ones, ascending by name, and None; or None and a ring."""
    sums = {name: begun[name] for name in begun}
    came = {}
    # Without a ring a least sum has at most one arc for each other name, so the last of these rounds changes nothing.
    for _ in range(len(_names_of(arcs)) + 1):
        changed = None
        for index, (first, second, most) in enumerate(arcs):
            if first in sums and (second not in sums or sums[first] + most < sums[second]):
                sums[second] = sums[first] + most
                came[second] = index
                changed = second
        if changed is None:
            return {name: sums[name] for name in sorted(sums)}, None
    return None, _ring_behind(arcs, came, changed)


def _ring_behind(arcs, came, name):
    """The ring into which one comes from the name, each time back along the arc by which its sum came."""
    # So many steps back leave the names behind which do not belong to the ring.
    for _ in range(len(came)):
        name = arcs[came[name]][0]
    ring = [came[name]]
    while arcs[ring[-1]][0] != name:
        ring.append(came[arcs[ring[-1]][0]])
    return tuple(ring[::-1])


def _ranks_to(arcs, reached, target):
    """For each reached name from which a way leads to the target, the least pair (sum, number of arcs) of one."""
    ranks = {target: (0, 0)}
    changed = True
    while changed:
        changed = False
        for first, second, most in arcs:
            # Beside the reached names there may be rings, with which this would not come to an end.
            if first in reached and second in ranks:
                rank = _rank_by(ranks, second, most)
                if first not in ranks or rank < ranks[first]:
                    ranks[first] = rank
                    changed = True
    return ranks


def _rank_by(ranks, name, most):
    return ranks[name][0] + most, ranks[name][1] + 1


def _first_index(arcs, ranks, name):
    """The first arc with which a way of the least rank begins at the name."""
    return min([
        index
        for index, (first, second, most) in enumerate(arcs)
        if first == name and second in ranks and _rank_by(ranks, second, most) == ranks[name]
    ])


def _leaving_arcs(arcs, numbers):
    """By their begins, the pairs of the end of an arc and how far the numbers stay below what it allows."""
    leaving = {name: [] for name in numbers}
    for first, second, most in arcs:
        leaving[first].append((second, numbers[first] + most - numbers[second]))
    return leaving


def _heights_from(leaving, source):
    """The least sums from the source over arcs that are not below 0, by name."""
    heights = {}
    queue = [(0, source)]
    while queue:
        height, name = heappop(queue)
        if name not in heights:
            heights[name] = height
            for second, slack in leaving[name]:
                heappush(queue, (height + slack, second))
    return heights
