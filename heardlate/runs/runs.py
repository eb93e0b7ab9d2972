"""Runs: what has happened in a plan up to a moment, and what can still happen."""

from heardlate.base.integers import is_between
from heardlate.errors import InvalidNumber, InvalidOperation, InvalidRun, UnknownName
from heardlate.plans.durations import check_durations
from heardlate.plans.plans import Plan, check_plan, least_bounds
from heardlate.plans.times import times_of

MAX_TICK = 400


class Run:
    """A run of a plan, which never changes."""

    def __init__(self, plan):
        check_plan(plan)
        self._plan = plan
        self._tick = 0
        self._is_behind = False
        self._times = {"start": 0}

    @property
    def plan(self):
        """The plan of the run."""
        return self._plan

    @property
    def tick(self):
        """The present tick."""
        return self._tick

    @property
    def is_behind(self):
        """Whether the moment is behind the news of the tick."""
        return self._is_behind

    @property
    def times(self):
        """The ticks of the start, of the events that are done and of the ends that were heard."""
        return {point: self._times[point] for point in sorted(self._times)}

    @property
    def left(self):
        """The events that are not done, ascending."""
        return tuple([event for event in self._plan.events if event not in self._times])

    @property
    def pending(self):
        """The ends that were not heard, ascending."""
        return tuple([end for end in self._plan.ends if end not in self._times])

    @property
    def rest(self):
        """The plan that is left from this moment on."""
        plan = self._plan
        steps = [self._step_left(step) for step in plan.steps]
        return Plan(plan.horizon, events=plan.events, steps=tuple(steps), bounds=self._bounds_left())

    def expected(self):
        """For the ends whose news can still come, as far as steps have begun, the first and the last tick of it."""
        spans = {step[0]: self._news(step) for step in self._plan.steps}
        return {end: spans[end] for end in spans if spans[end] is not None}

    def hear(self, *ends):
        """The run behind the news of the present tick, which are those of just these ends."""
        _check_known(self._plan.ends, ends)
        if self._is_behind or _has_twice(ends):
            raise InvalidOperation("the news of a tick are heard once")
        expected = self.expected()
        for end in ends:
            if end not in expected or expected[end][0] != self._tick:
                raise InvalidOperation("this news cannot come in this tick")
        for end in expected:
            if expected[end][1] == self._tick and end not in ends:
                raise InvalidOperation("news that must come is missing")
        happened = {end: self._tick - self._plan.step(end)[4] for end in ends}
        return self._moved(self._tick, True, happened)

    def do(self, *events):
        """The run in which these events are done in the present tick, behind its news."""
        _check_known(self._plan.events, events)
        if _has_twice(events) or any([event in self._times for event in events]):
            raise InvalidOperation("an event is done once")
        if len(events) > 0 and self._tick > self._plan.horizon:
            raise InvalidOperation("no event is done behind the horizon")
        self._check_silence(self._tick)
        return self._moved(self._tick, True, {event: self._tick for event in events})

    def wait(self, *, ticks=1):
        """The run so many ticks later, before the news, if nothing is heard or done on the way."""
        if not is_between(ticks, 1, MAX_TICK):
            raise InvalidNumber(ticks)
        if self._tick + ticks > MAX_TICK:
            raise InvalidOperation("a run does not go on so long")
        self._check_silence(self._tick + ticks - 1)
        return self._moved(self._tick + ticks, False, {})

    def is_over(self):
        """Whether all events are done and no news can come any more."""
        return self.left == () and self.expected() == {}

    def finished(self, durations):
        """The times of a run in which all events are done, with these durations."""
        check_durations(self.rest, durations)
        if self.left != ():
            raise InvalidOperation("an event is not done")
        return times_of(self._plan, {event: self._times[event] for event in self._plan.events}, durations)

    def __eq__(self, other):
        if not isinstance(other, Run) or self._plan != other.plan or self._tick != other.tick:
            return False
        return self._is_behind == other.is_behind and self._times == other.times

    def __str__(self):
        return f"run at tick {self._tick}, {self._many(self._plan.events)} done, {self._many(self._plan.ends)} heard"

    def _many(self, points):
        """How many of these points have happened, as far as the driver knows."""
        return len([point for point in points if point in self._times])

    def _news(self, step):
        """The first and the last tick in which the news of a step can still come; None if none can, or not yet."""
        end, begin, least, most, delay = step
        if end in self._times or begin not in self._times or delay is None:
            return None
        earliest = self._tick + 1 if self._is_behind else self._tick
        begun = self._times[begin]
        return max(begun + least + delay, earliest), begun + most + delay

    def _step_left(self, step):
        """The step with those durations that are still possible."""
        end, begin, _, most, delay = step
        if end in self._times:
            duration = self._times[end] - self._times[begin]
            return end, begin, duration, duration, delay
        span = self._news(step)
        if span is None:
            return step
        return end, begin, span[0] - delay - self._times[begin], most, delay

    def _bounds_left(self):
        """The bounds of the plan and those that say when events were done, or that they are not done yet."""
        bounds = list(self._plan.bounds)
        for event in self._plan.events:
            if event in self._times:
                bounds.append(("start", event, self._times[event]))
            bounds.append((event, "start", -self._times.get(event, self._tick)))
        return least_bounds(bounds)

    def _check_silence(self, last):
        """Raises an error if some news must come up to this tick."""
        expected = self.expected()
        if any([expected[end][1] <= last for end in expected]):
            raise InvalidOperation("news that must come is missing")

    def _moved(self, tick, is_behind, happened):
        """The run at this moment, with these points that have happened since."""
        run = Run(self._plan)
        run._tick = tick
        run._is_behind = is_behind
        run._times = dict(self._times)
        run._times.update(happened)
        return run


def _check_known(names, values):
    for value in values:
        if value not in names:
            raise UnknownName(value)


def _has_twice(names):
    return len(set(names)) < len(names)


def check_run(run):
    """Raises an error if this is not a run."""
    if not isinstance(run, Run):
        raise InvalidRun("this is not a run")
