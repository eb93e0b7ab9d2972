"""Slow and plain answers about arcs, with which those of the program are compared."""

import itertools
import random


def names_of(arcs):
    return sorted(set(name for arc in arcs for name in arc[:2]))


def is_joined(arcs, way):
    return all(arcs[one][1] == arcs[other][0] for one, other in zip(way, way[1:]))


def sum_of(arcs, way):
    return sum(arcs[index][2] for index in way)


def is_ring(arcs, value):
    if type(value) is not tuple or len(value) == 0:
        return False
    if not all(type(index) is int and 0 <= index < len(arcs) for index in value):
        return False
    return is_joined(arcs, value) and arcs[value[-1]][1] == arcs[value[0]][0] and sum_of(arcs, value) < 0


def ways_from(arcs, source):
    """All ways from the source on which no name occurs twice, but that the last one may have occurred before."""
    found = [()]
    level = [((), source, (source,))]
    while level:
        following = []
        for way, name, seen in level:
            for index, (first, second, _) in enumerate(arcs):
                if first == name:
                    found.append(way + (index,))
                    if second not in seen:
                        following.append((way + (index,), second, seen + (second,)))
        level = following
    return found


def end_of(arcs, way, source):
    return arcs[way[-1]][1] if way else source


def simple_rings_from(arcs, source):
    """Whether ways from the source reach a ring; each ring contains one on which no name occurs twice."""
    reached = set(end_of(arcs, way, source) for way in ways_from(arcs, source))
    for name in reached:
        for way in ways_from(arcs, name):
            if way and end_of(arcs, way, name) == name and sum_of(arcs, way) < 0:
                return True
    return False


def least_sums(arcs, source):
    """The least sums from the source; right if it reaches no ring."""
    best = {}
    for way in ways_from(arcs, source):
        name = end_of(arcs, way, source)
        best[name] = min(sum_of(arcs, way), best.get(name, sum_of(arcs, way)))
    return best


def best_way(arcs, source, target):
    """The way that the document asks for; right if the source reaches no ring."""
    ways = [way for way in ways_from(arcs, source) if end_of(arcs, way, source) == target]
    return min(ways, key=lambda way: (sum_of(arcs, way), len(way), way), default=None)


def some_arcs(many, seed):
    """Small arcs of many shapes, with and without rings."""
    chance = random.Random(seed)
    for _ in range(many):
        names = "abcde"[: chance.randint(1, 5)]
        low = chance.choice((-3, -1, 0, 0))
        high = chance.choice((0, 1, 3))
        yield tuple(
            (chance.choice(names), chance.choice(names), chance.randint(low, high)) for _ in range(chance.randint(0, 7))
        )


def tiny_ways(arcs, longest):
    """All tuples of indices up to a length, ways or not."""
    for length in range(longest + 1):
        yield from itertools.product(range(len(arcs)), repeat=length)
