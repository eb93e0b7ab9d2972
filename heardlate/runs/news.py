"""News: which ends can be heard, or were heard, in a run."""

from heardlate.runs.runs import Run


def news_sets(run):
    """All sets of ends that can be heard in the present tick of a run before its news, by size and then ascending."""
    expected = run.expected()
    coming = [end for end in expected if expected[end][0] == run.tick]
    missed = [end for end in coming if expected[end][1] == run.tick]
    return [ends for ends in subsets(coming) if all([end in ends for end in missed])]


def news_with(run, durations):
    """The ends that are heard in the present tick of a run before its news, if the steps take these durations."""
    times = run.times
    found = []
    for end in run.expected():
        step = run.plan.step(end)
        if times[step[1]] + durations[end] + step[4] == run.tick:
            found.append(end)
    return tuple(found)


def heard_in(run):
    """The ends that were heard in a run, with the ticks at which they happened, ascending."""
    times = run.times
    return tuple([(end, times[end]) for end in run.plan.ends if end in times])


def moments_of(run):
    """What a run was before the news of each tick, up to the present one."""
    times = run.times
    past = Run(run.plan)
    moments = [past]
    for tick in range(run.tick):
        ends = [step[0] for step in run.plan.steps if step[0] in times and times[step[0]] + step[4] == tick]
        events = [event for event in run.plan.events if event in times and times[event] == tick]
        past = past.hear(*ends).do(*events).wait()
        moments.append(past)
    return moments


def subsets(names):
    """All ascending tuples of ascending names, by size and then ascending."""
    found = [()]
    for name in names:
        found = found + [chosen + (name,) for chosen in found]
    return sorted(sorted(found), key=len)
