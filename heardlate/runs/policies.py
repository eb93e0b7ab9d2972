"""Policies: what a driver does in each tick, by what it has heard."""

from heardlate.base.integers import is_between
from heardlate.errors import InvalidPolicy, TooMany
from heardlate.plans.durations import MAX_CHOICES, all_durations, check_durations, count_durations
from heardlate.plans.plans import check_plan
from heardlate.plans.times import are_kept, times_of
from heardlate.runs.news import heard_in, news_sets, news_with
from heardlate.runs.runs import Run

MAX_ROWS = 2000

_MAX_PAIRS = 5000
_LAST_END = 198


def is_policy(plan, value):
    """Whether the value is a policy of the plan."""
    check_plan(plan)
    if not isinstance(value, dict) or len(value) > MAX_ROWS:
        return False
    return all([_is_pair(plan, pair) and _are_events(plan, value[pair]) for pair in value])


def check_policy(plan, policy):
    """Raises an error if this is not a plan, or not a policy of it."""
    if not is_policy(plan, policy):
        raise InvalidPolicy("a policy is a dict from at most 2000 pairs of a tick and what was heard to events")


def played(plan, policy, durations):
    """The events that are done with these durations, by ticks, and the run behind the horizon."""
    check_policy(plan, policy)
    check_durations(plan, durations)
    run = Run(plan)
    for _ in range(plan.horizon + 1):
        ends = news_with(run, durations)
        run = run.hear(*ends)
        events = told_by(policy, run)
        run = run.do(*events).wait()
    return done_in(run), run


def first_failure(plan, policy):
    """The first durations for which an event stays undone or a bound is broken, or None."""
    check_policy(plan, policy)
    for durations in all_durations(plan):
        done = _done_with(plan, policy, durations)
        if len(done) < len(plan.events) or not are_kept(plan, times_of(plan, done, durations)):
            return durations
    return None


def is_safe(plan, value):
    """Whether the value is a policy with which all events are done and all bounds are kept."""
    return is_policy(plan, value) and first_failure(plan, value) is None


def reached_pairs(plan, policy):
    """The pairs of a tick and what was heard that occur in runs by the policy, ascending."""
    reached = _reached(plan, policy)
    return tuple(sorted(reached))


def trimmed(plan, policy):
    """The policy with just what it does in its runs."""
    reached = _reached(plan, policy)
    return {pair: reached[pair] for pair in sorted(reached) if reached[pair] != ()}


def told_by(policy, run):
    """The events that a policy does in a run behind the news of its tick."""
    told = policy.get((run.tick, heard_in(run)), ())
    left = run.left
    return tuple([event for event in told if event in left])


def done_in(run):
    """The events that are done in a run, with their ticks."""
    times = run.times
    return {event: times[event] for event in run.plan.events if event in times}


def _is_pair(plan, value):
    if not isinstance(value, tuple) or len(value) != 2 or not is_between(value[0], 0, plan.horizon):
        return False
    heard = value[1]
    if not isinstance(heard, tuple) or not all([_is_heard(plan, pair) for pair in heard]):
        return False
    return _ascend([pair[0] for pair in heard])


def _is_heard(plan, value):
    if not isinstance(value, tuple) or len(value) != 2:
        return False
    return value[0] in plan.ends and is_between(value[1], 0, _LAST_END)


def _are_events(plan, value):
    if not isinstance(value, tuple) or not all([event in plan.events for event in value]):
        return False
    return _ascend(value)


def _ascend(names):
    return all([first < second for first, second in zip(names, names[1:])])


def _done_with(plan, policy, durations):
    """The events that a policy does with these durations, by ticks."""
    done = {}
    coming = {}
    _add_news(plan, coming, "start", 0, durations)
    heard = ()
    for tick in range(plan.horizon + 1):
        if tick in coming:
            heard = tuple(sorted(list(heard) + coming[tick]))
        for event in policy.get((tick, heard), ()):
            if event not in done:
                done[event] = tick
                _add_news(plan, coming, event, tick, durations)
    return done


def _add_news(plan, coming, begin, tick, durations):
    """Notes, for the steps that begin at this point and tick, in which tick which end will be heard."""
    for step in plan.steps:
        if step[1] == begin and step[4] is not None:
            happened = tick + durations[step[0]]
            coming.setdefault(happened + step[4], []).append((step[0], happened))


def _reached(plan, policy):
    """A dict from the pairs that occur in runs by a policy to what it does there that is not done yet."""
    check_policy(plan, policy)
    if count_durations(plan) > MAX_CHOICES:
        raise TooMany(MAX_CHOICES)
    reached = {}
    runs = [Run(plan)]
    while len(runs) > 0:
        run = runs.pop()
        for ends in news_sets(run):
            behind = run.hear(*ends)
            events = told_by(policy, behind)
            reached[(run.tick, heard_in(behind))] = events
            if run.tick < plan.horizon:
                runs.append(behind.do(*events).wait())
        if len(reached) > _MAX_PAIRS:
            raise TooMany(_MAX_PAIRS)
    return reached
