"""Moves: what a driver must, may and must not do in the present tick of a run."""

from heardlate.drive.stands import stand_arcs
from heardlate.errors import InvalidOperation, TooMany, UnknownName
from heardlate.facts.decided import check_driven, is_driven, is_paper, paper_of, table_of_driven
from heardlate.plans.plans import Plan, least_bounds
from heardlate.runs.news import moments_of, subsets
from heardlate.runs.runs import check_run

_MAX_LEFT = 6


def done_rest(run, *events):
    """The rest of the run in which these events are done in this tick."""
    check_run(run)
    return run.do(*events).rest


def later_rest(run, *events):
    """The rest of the run in which these events are not done before the next tick."""
    check_run(run)
    # What cannot be done now cannot be put off either.
    run.do(*events)
    return _rest_without(_behind(run), events)


def verdict_on(run, event):
    """Whether the event must be done now, must not be done now, or is free."""
    behind = _behind_for(run, event)
    check_driven(behind.rest)
    return _word_on(behind, event)


def verdicts(run):
    """The verdicts on all events that are not done."""
    check_run(run)
    behind = _behind(run)
    check_driven(behind.rest)
    return {event: _word_on(behind, event) for event in behind.left}


def move_paper(run, event):
    """The verdict on an event, with papers of its done rest and of its later rest."""
    behind = _behind_for(run, event)
    check_driven(behind.rest)
    done = paper_of(behind.do(event).rest)
    later = paper_of(_rest_without(behind, (event,)))
    return _word_by(done, later), done, later


def is_move_paper(run, event, value):
    """Whether the value is a move paper for the event."""
    behind = _behind_for(run, event)
    if not isinstance(value, tuple) or len(value) != 3 or not is_driven(behind.rest):
        return False
    word, done, later = value
    if not is_paper(behind.do(event).rest, done) or not is_paper(_rest_without(behind, (event,)), later):
        return False
    return word == _word_by(done, later)


def is_sound(run):
    """Whether the rest of the run was driven before and behind the news and behind the events of each tick."""
    check_run(run)
    behind = _behind(run)
    # If it is driven before the news of a tick, it was driven behind the news and the events of the tick before.
    rest = None
    for moment in moments_of(run):
        before = rest
        rest = moment.rest
        if rest != before and not is_driven(rest):
            return False
    return is_driven(behind.rest)


def stand(run):
    """The arcs of the stand of the run for the derived table of its plan."""
    check_run(run)
    behind = _behind(run)
    plain, late = table_of_driven(run.plan)
    return stand_arcs(behind, plain, late)


def choices(run):
    """Yields all ascending tuples of events behind which the rest is driven if just these are done now."""
    check_run(run)
    behind = _behind(run)
    if len(behind.left) > _MAX_LEFT:
        raise TooMany(_MAX_LEFT)
    check_driven(behind.rest)
    for events in subsets(list(behind.left)):
        done = behind.do(*events)
        if is_driven(_rest_without(done, done.left)):
            yield events


def _behind(run):
    """The run behind the news of its tick, in which nothing is heard if they are still to come."""
    if run.is_behind:
        return run
    return run.hear()


def _behind_for(run, event):
    """The run behind the news of its tick, if the event can still be done in it."""
    check_run(run)
    if event not in run.plan.events:
        raise UnknownName(event)
    if event not in run.left:
        raise InvalidOperation("this event is done")
    return _behind(run)


def _rest_without(run, events):
    """The rest of a run behind the news of its tick, if these events are not done before the next tick."""
    rest = run.rest
    bounds = list(rest.bounds)
    for event in events:
        bounds.append((event, "start", -(run.tick + 1)))
    return Plan(rest.horizon, events=rest.events, steps=rest.steps, bounds=least_bounds(bounds))


def _word_on(run, event):
    if not is_driven(_rest_without(run, (event,))):
        return "must"
    if not is_driven(run.do(event).rest):
        return "not"
    return "free"


def _word_by(done, later):
    """The verdict that papers of the done rest and of the later rest show."""
    if later[0] == "refuted":
        return "must"
    if done[0] == "refuted":
        return "not"
    return "free"
