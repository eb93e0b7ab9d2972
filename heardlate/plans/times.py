"""Times: dicts from exactly the points of a plan to the ticks at which they happen."""

from heardlate.base.integers import is_between
from heardlate.errors import InvalidTimes
from heardlate.plans.durations import check_durations
from heardlate.plans.plans import check_plan


def is_times(plan, value):
    """Whether the value is times of the plan."""
    check_plan(plan)
    if not isinstance(value, dict) or len(value) != len(plan.points):
        return False
    if not all([point in value for point in plan.points]) or not is_between(value["start"], 0, 0):
        return False
    if not _are_done(plan, value):
        return False
    return all([_takes_its_time(step, value) for step in plan.steps])


def times_of(plan, done, durations):
    """The times in which the events are done at these ticks and the steps take these durations."""
    check_plan(plan)
    if not isinstance(done, dict) or len(done) != len(plan.events) or not _are_done(plan, done):
        raise InvalidTimes("events are done at ticks up to the horizon")
    check_durations(plan, durations)
    times = {"start": 0}
    times.update(done)
    for step in plan.steps:
        times[step[0]] = times[step[1]] + durations[step[0]]
    return {point: times[point] for point in sorted(times)}


def durations_of(plan, times):
    """The durations of times."""
    check_times(plan, times)
    return {step[0]: times[step[0]] - times[step[1]] for step in plan.steps}


def broken_bounds(plan, times):
    """The bounds that the times do not keep, ascending."""
    check_times(plan, times)
    return tuple([bound for bound in plan.bounds if times[bound[1]] > times[bound[0]] + bound[2]])


def are_kept(plan, times):
    """Whether the times keep all bounds."""
    return broken_bounds(plan, times) == ()


def check_times(plan, times):
    """Raises an error if this is not a plan, or these are not times of it."""
    if not is_times(plan, times):
        raise InvalidTimes("times are a dict from exactly the points to ticks that fit the plan")


def _are_done(plan, ticks):
    """Whether the ticks have one for each event, from 0 to the horizon."""
    return all([event in ticks and is_between(ticks[event], 0, plan.horizon) for event in plan.events])


def _takes_its_time(step, times):
    end, begin, least, most, _ = step
    return is_between(times[end], times[begin] + least, times[begin] + most)
