"""Timetables: times for durations that are known in advance, or for all durations at once."""

from heardlate.base.arcs import distances, is_ring, numbers_paper
from heardlate.errors import Refuted, TooMany
from heardlate.plans.durations import all_durations, check_durations, count_durations
from heardlate.plans.plans import Plan, check_plan
from heardlate.plans.times import are_kept, is_times

_MAX_TRIED = 1000


def arcs_of(plan):
    """The arcs that all times keep which keep the bounds of the plan, ascending and each once."""
    check_plan(plan)
    arcs = list(plan.bounds) + _horizon_arcs(plan)
    for end, begin, least, most, _ in plan.steps:
        arcs.append((begin, end, most))
        arcs.append((end, begin, -least))
    return tuple(sorted(set(arcs)))


def known(plan, durations):
    """The plan in which the span of each step is cut to its duration."""
    check_durations(plan, durations)
    steps = [(step[0], step[1], durations[step[0]], durations[step[0]], step[4]) for step in plan.steps]
    return Plan(plan.horizon, events=plan.events, steps=tuple(steps), bounds=plan.bounds)


def earliest(plan, durations):
    """The times with these durations that keep all bounds, each event as early as it can be."""
    arcs = arcs_of(known(plan, durations))
    # Only the ring of these arcs themselves is a paper, so the turned ones come behind them.
    _sums_from_start(arcs)
    sums = _sums_from_start(tuple([(second, first, most) for first, second, most in arcs]))
    return {point: -sums[point] for point in sums}


def latest(plan, durations):
    """The times with these durations that keep all bounds, each event as late as it can be."""
    return _sums_from_start(arcs_of(known(plan, durations)))


def play(plan, durations):
    """For each event the earliest and the latest tick of times with these durations that keep all bounds."""
    first = earliest(plan, durations)
    last = latest(plan, durations)
    return {event: (first[event], last[event]) for event in plan.events}


def timetable_paper(plan, durations):
    """Times with these durations that keep all bounds, or a ring, which shows that there are none."""
    try:
        return "times", latest(plan, durations)
    except Refuted as refuted:
        return "ring", refuted.paper


def is_timetable_paper(plan, durations, value):
    """Whether the value shows that some times with these durations keep all bounds, or that none do."""
    cut = known(plan, durations)
    if not isinstance(value, tuple) or len(value) != 2:
        return False
    word, shown = value
    if word == "times":
        return is_times(cut, shown) and are_kept(cut, shown)
    return word == "ring" and is_ring(arcs_of(cut), shown)


def first_untimed(plan):
    """The first durations for which no times keep all bounds, or None."""
    if count_durations(plan) > _MAX_TRIED:
        raise TooMany(_MAX_TRIED)
    for durations in all_durations(plan):
        if _fixed_numbers(plan, durations, durations) is None:
            return durations
    return None


def fixed_times(plan):
    """Ticks for the events that keep all bounds for all durations, or None."""
    check_plan(plan)
    shortest = {step[0]: step[2] for step in plan.steps}
    longest = {step[0]: step[3] for step in plan.steps}
    numbers = _fixed_numbers(plan, shortest, longest)
    if numbers is None:
        return None
    return {event: numbers[event] - numbers["start"] for event in plan.events}


def _horizon_arcs(plan):
    """The arcs which say that each event is done from the start to the horizon."""
    arcs = []
    for event in plan.events:
        arcs.append(("start", event, plan.horizon))
        arcs.append((event, "start", 0))
    return arcs


def _sums_from_start(arcs):
    # The arcs of a plan without events and steps do not have the name of the start.
    if len(arcs) == 0:
        return {"start": 0}
    return distances(arcs, "start")


def _fixed_numbers(plan, shortest, longest):
    """Numbers for the start and the events that keep all bounds for all durations between these, or None."""
    begins = {step[0]: step[1] for step in plan.steps}
    arcs = _horizon_arcs(plan)
    for first, second, most in plan.bounds:
        # The second end comes as late and the first one as early as can be, for they are different ends.
        left = most + shortest.get(first, 0) - longest.get(second, 0)
        arcs.append((begins.get(first, first), begins.get(second, second), left))
    word, shown = numbers_paper(tuple(arcs))
    if word == "ring":
        return None
    return shown
