"""Trees of tasks: what a task is made of, as tuples that begin with a word.

They are ("own", name, least, most), ("other", name, least, most, delay), ("row", parts), ("beside", parts) and
("within", part, most). A row has no rows, and a beside no besides among its parts.
"""

from heardlate.base.texts import delay_word


def parts_of(tree):
    """The trees directly in a tree."""
    if tree[0] == "within":
        return (tree[1],)
    if tree[0] in ("row", "beside"):
        return tree[1]
    return ()


def joined(word, trees):
    """The row or the beside of these trees; the parts of one of the same kind become parts of it."""
    parts = []
    for tree in trees:
        if tree[0] == word:
            parts.extend(tree[1])
        else:
            parts.append(tree)
    return word, tuple(parts)


def leaves_in(tree):
    """The leaves of a tree, in order."""
    if tree[0] in ("own", "other"):
        return [tree]
    return [leaf for part in parts_of(tree) for leaf in leaves_in(part)]


def names_in(tree):
    """The names of the leaves, in order."""
    return tuple([leaf[1] for leaf in leaves_in(tree)])


def depth_of(tree):
    """How deep a tree is nested; a leaf is one deep."""
    return 1 + max([depth_of(part) for part in parts_of(tree)], default=0)


def text_of(tree):
    """The text of a task."""
    word = tree[0]
    if word == "row":
        return "; ".join([f"({text_of(part)})" if part[0] == "beside" else text_of(part) for part in tree[1]])
    if word == "beside":
        return " | ".join([text_of(part) for part in tree[1]])
    if word == "within":
        return f"[{text_of(tree[1])}] {tree[2]}"
    span = f"{tree[1]} {tree[2]}..{tree[3]}"
    return span if word == "own" else f"{span}? {delay_word(tree[4])}"


def are_kept_by(tree, spans):
    """Whether spans keep a task."""
    if tree[0] in ("own", "other"):
        begin, finish = spans[tree[1]]
        return tree[2] <= finish - begin <= tree[3]
    if not all([are_kept_by(part, spans) for part in parts_of(tree)]):
        return False
    if tree[0] == "row":
        return _are_in_order(tree[1], spans)
    if tree[0] == "within":
        names = names_in(tree)
        return max([spans[name][1] for name in names]) - min([spans[name][0] for name in names]) <= tree[2]
    return True


def bounds_of(tree):
    """The bounds of the compiled plan that come from a task; of several ones for one pair the least number counts."""
    bounds = [bound for part in parts_of(tree) for bound in bounds_of(part)]
    if tree[0] == "own":
        begin, finish = begin_of(tree[1]), finish_of(tree[1])
        bounds.append((begin, finish, tree[3]))
        bounds.append((finish, begin, -tree[2]))
    if tree[0] == "row":
        for before, behind in zip(tree[1], tree[1][1:]):
            for finish in _last_finishes(before):
                bounds.extend([(begin, finish, 0) for begin in _first_begins(behind)])
    if tree[0] == "within":
        for begin in _first_begins(tree):
            bounds.extend([(begin, finish, tree[2]) for finish in _last_finishes(tree)])
    return bounds


def begin_of(name):
    """The point at which a leaf begins."""
    return name + "b"


def finish_of(name):
    """The point at which a leaf has finished."""
    return name + "f"


def _are_in_order(parts, spans):
    """Whether no leaf of a part begins before all leaves of the parts in front of it have finished."""
    finished = 0
    for part in parts:
        names = names_in(part)
        if min([spans[name][0] for name in names]) < finished:
            return False
        finished = max([finished] + [spans[name][1] for name in names])
    return True


def _first_begins(tree):
    if tree[0] in ("own", "other"):
        return [begin_of(tree[1])]
    parts = tree[1][:1] if tree[0] == "row" else parts_of(tree)
    return [point for part in parts for point in _first_begins(part)]


def _last_finishes(tree):
    if tree[0] in ("own", "other"):
        return [finish_of(tree[1])]
    parts = tree[1][-1:] if tree[0] == "row" else parts_of(tree)
    return [point for part in parts for point in _last_finishes(part)]
