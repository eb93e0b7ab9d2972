"""Slow and plain answers about tasks: drawn ones with their texts, and whether spans keep them."""

import itertools
import random

from heardlate.tasks.tasks import Beside, Other, Own, Row, Within


class Drawn:
    """A drawn task with its text, its leaves, its kind, its depth, and a function that tells whether spans keep it."""

    def __init__(self, task, text, names, kind, depth, keeps):
        self.task = task
        self.text = text
        self.names = names
        self.kind = kind
        self.depth = depth
        self.keeps = keeps


def own(name, least, most):
    def keeps(spans):
        return least <= spans[name][1] - spans[name][0] <= most
    return Drawn(Own(name, least, most), f"{name} {least}..{most}", (name,), "leaf", 1, keeps)


def other(name, least, most, delay):
    def keeps(spans):
        return least <= spans[name][1] - spans[name][0] <= most
    word = "never" if delay is None else delay
    task = Other(name, least, most, delay=delay)
    return Drawn(task, f"{name} {least}..{most}? {word}", (name,), "leaf", 1, keeps)


def row(*parts):
    def keeps(spans):
        for before, behind in itertools.combinations(parts, 2):
            for one, another in itertools.product(before.names, behind.names):
                if spans[another][0] < spans[one][1]:
                    return False
        return all(part.keeps(spans) for part in parts)
    text = "; ".join(f"({part.text})" if part.kind == "beside" else part.text for part in parts)
    return _joined(Row, text, parts, "row", keeps)


def beside(*parts):
    def keeps(spans):
        return all(part.keeps(spans) for part in parts)
    return _joined(Beside, " | ".join(part.text for part in parts), parts, "beside", keeps)


def within(part, most):
    def keeps(spans):
        begin = min(spans[name][0] for name in part.names)
        return part.keeps(spans) and all(spans[name][1] - begin <= most for name in part.names)
    return Drawn(Within(part.task, most), f"[{part.text}] {most}", part.names, "within", part.depth + 1, keeps)


def _joined(kind, text, parts, word, keeps):
    depth = 1 + max(part.depth - (part.kind == word) for part in parts)
    names = tuple(name for part in parts for name in part.names)
    return Drawn(kind(*[part.task for part in parts]), text, names, word, depth, keeps)


def drawn(chance, names, deep, longest=9):
    """A task with leaves of these names, nested at most so deep if that can be."""
    if len(names) == 1:
        least = chance.randint(0, longest)
        most = chance.randint(least, longest)
        if chance.random() < 0.5 and least > 0:
            part = other(names[0], least, most, chance.choice((0, 1, 7, 99, None)))
        else:
            part = own(names[0], least, most)
    else:
        cuts = sorted(chance.sample(range(1, len(names)), chance.randint(1, min(2, len(names) - 1))))
        pieces = [names[low:high] for low, high in zip([0] + cuts, cuts + [len(names)])]
        part = chance.choice((row, beside))(*[drawn(chance, piece, deep - 1, longest) for piece in pieces])
    if part.depth < deep and chance.random() < 0.25:
        part = within(part, chance.randint(0, 2 * longest))
    return part


def some_tasks(many, seed, leaves=8, longest=9):
    chance = random.Random(seed)
    while many > 0:
        names = tuple(chance.sample(("a", "b", "cc", "ddd", "e", "start", "never", "zzzzzz"), chance.randint(1, leaves)))
        part = drawn(chance, names, 4, longest)
        if part.depth <= 6:
            many -= 1
            yield part
