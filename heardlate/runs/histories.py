"""Histories: what was heard and done in which ticks of a run, and runs in which the same happens again."""

from heardlate.errors import InvalidOperation, InvalidRun, UnknownName
from heardlate.runs.runs import Run


def history_of(run):
    """Triples of a tick, the ends that were heard in it and the events that were done in it; for ticks with any."""
    times = run.times
    heard = {}
    done = {}
    for step in run.plan.steps:
        if step[0] in times:
            heard.setdefault(times[step[0]] + step[4], []).append(step[0])
    for event in run.plan.events:
        if event in times:
            done.setdefault(times[event], []).append(event)
    ticks = sorted(set(list(heard) + list(done)))
    return tuple([(tick, tuple(heard.get(tick, [])), tuple(done.get(tick, []))) for tick in ticks])


def run_with(plan, history, tick, is_behind):
    """The run of a plan up to this tick, before or behind its news, with this history."""
    try:
        return _replayed(plan, history, tick, is_behind)
    except (UnknownName, InvalidOperation):
        raise InvalidRun("this cannot have happened in a run of the plan") from None


def moved_to(plan, run):
    """The run of another plan in which the same news and events come in the same ticks."""
    return run_with(plan, history_of(run), run.tick, run.is_behind)


def _replayed(plan, history, tick, is_behind):
    run = Run(plan)
    for at, ends, events in history:
        run = _waited(run, at).hear(*ends).do(*events)
    run = _waited(run, tick)
    return run.hear() if is_behind and not run.is_behind else run


def _waited(run, tick):
    return run if tick == run.tick else run.wait(ticks=tick - run.tick)
