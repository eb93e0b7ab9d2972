"""Stands: what a table says about the moment of a run, and when it lets events be done."""

from heardlate.runs.runs import MAX_TICK


def stand_arcs(run, plain, late):
    """The arcs of the stand of a run for a table, ascending and each once."""
    times = run.times
    arcs = [(first, second, plain[(first, second)]) for first, second in plain]
    for first, end in late:
        if end not in times:
            arcs.append((first, run.plan.step(end)[1], late[(first, end)]))
    for point in times:
        if point != "start":
            arcs.append(("start", point, times[point]))
            arcs.append((point, "start", -times[point]))
    for event in run.left:
        arcs.append((event, "start", -run.tick))
    return tuple(sorted(set(arcs)))


def last_ticks(run, plain):
    """The ticks in which the events that are left must be done, if nothing is heard before.

    They are the least sums of ways from the start in a stand without a ring, by a closed table. Arcs that lead to the
    start do not matter for these. Nor do late numbers: by release a late number that is not below all waits is a plain
    number, too, and another one leads from something that has happened to a begin that has happened before it.
    """
    times = run.times
    return {event: min([times[point] + plain[(point, event)] for point in times]) for event in run.left}


def first_ticks(run, plain, late):
    """The ticks from which on the events that are left may be done, if nothing is heard or done before.

    An event may be done if the present tick and the least sum of a way from it to the start make at least 0. Such a
    way comes to the start from something that has happened, or from an event that is left, at the present tick; so
    an event from which a way below 0 leads to an event that is left may not be done before that one.
    """
    times = run.times
    happened = _sums_to(run, plain, late, {point: -times[point] for point in times})
    others = _sums_to(run, plain, late, {event: 0 for event in run.left})
    return {event: MAX_TICK + 1 if others[event] < 0 else -happened[event] for event in run.left}


def _sums_to(run, plain, late, worth):
    """The least sums of ways to these points and what each of them is worth."""
    points = run.plan.points
    if len(worth) == 0:
        return {}
    sums = {point: min([plain[(point, other)] + worth[other] for other in worth]) for point in points}
    steps = [(step[0], step[1]) for step in run.plan.steps if step[0] in run.pending]
    # A way without a ring comes to each begin at most once.
    for _ in steps:
        for end, begin in steps:
            sums = {point: min(sums[point], late[(point, end)] + sums[begin]) for point in points}
    return sums
