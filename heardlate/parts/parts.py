"""Plans inside plans: a plan that is done in the place of a step of another one."""

from heardlate.drive.drivers import Driver, check_begun
from heardlate.errors import InvalidOperation, TooMany, UnknownName
from heardlate.facts.decided import is_driven, paper_of
from heardlate.plans.plans import MAX_HORIZON, Plan, check_plan, least_bounds
from heardlate.runs.runs import Run


def spanned(outer, end, inner, last):
    """The inner plan with the bounds of the span of the step."""
    _check_parts(outer, end, inner, last)
    _, _, least, most, _ = outer.step(end)
    bounds = inner.bounds + _span_bounds("start", last, least, most)
    return Plan(inner.horizon, events=inner.events, steps=inner.steps, bounds=least_bounds(bounds))


def fit_paper(outer, end, inner, last):
    """A table paper if the inner plan fits the step, otherwise a refutation."""
    return paper_of(spanned(outer, end, inner, last))


def is_fitting(outer, end, inner, last):
    """Whether the inner plan fits the step."""
    return is_driven(spanned(outer, end, inner, last))


def nested(outer, end, inner, last):
    """The plan that does the inner plan in the place of the step."""
    _check_parts(outer, end, inner, last)
    if any([point in outer.points for point in inner.points if point not in ("start", last)]):
        raise InvalidOperation("the plans have a name in common")
    if outer.horizon + inner.horizon > MAX_HORIZON:
        raise TooMany(MAX_HORIZON)
    _, begin, least, most, _ = outer.step(end)
    names = {point: point for point in inner.points}
    names.update({"start": begin, last: end})
    events = tuple([names[event] for event in inner.events])
    steps = [step for step in outer.steps if step[0] != end]
    for step in inner.steps:
        steps.append((names[step[0]], names[step[1]]) + step[2:])
    bounds = list(outer.bounds + _span_bounds(begin, end, least, most))
    for event in outer.events:
        bounds.append(("start", event, outer.horizon))
    for event in events:
        bounds.append((event, begin, 0))
        bounds.append((begin, event, inner.horizon))
    for first, second, number in inner.bounds:
        bounds.append((names[first], names[second], number))
    return Plan(
        outer.horizon + inner.horizon,
        events=outer.events + events,
        steps=tuple(steps),
        bounds=least_bounds(bounds),
    )


class NestedDriver(Driver):
    """A driver that plays a nested plan with a driver of the outer plan and one of the inner plan."""

    def __init__(self, outer, end, inner, last):
        check_begun(outer)
        check_begun(inner)
        plan = nested(outer.plan, end, inner.plan, last)
        if spanned(outer.plan, end, inner.plan, last) != inner.plan:
            raise InvalidOperation("the inner plan has not the bounds of the span")
        self._step = outer.plan.step(end)
        self._last = last
        self._run = Run(plan)
        # Drivers that are kept here are never called themselves, so they can be kept at several places.
        self._outer = self._first_outer = outer.twin()
        self._inner = self._first_inner = inner.twin()

    @property
    def plan(self):
        """The plan that is played."""
        return self._run.plan

    @property
    def tick(self):
        """The present tick."""
        return self._run.tick

    @property
    def run(self):
        """The run up to the beginning of the present tick."""
        return self._run

    def __call__(self, ends=()):
        """Hears these ends in the present tick, returns the events that are done in it, and goes on."""
        run = self._hear(self._run, ends)
        outer = self._outer.twin()
        inner = self._inner.twin()
        begin = self._step[1]
        events = self._inner_events(inner, ends) if begin in run.times else ()
        others = outer(self._outer_news(run, ends, events))
        if begin in others:
            events = self._inner_events(inner, ())
        done = tuple(sorted(events + others))
        self._run = run.do(*done).wait()
        self._outer = outer
        self._inner = inner
        return done

    def twin(self):
        """An independent driver in the same state."""
        other = NestedDriver(self._first_outer, self._step[0], self._first_inner, self._last)
        other._run = self._run
        other._outer = self._outer
        other._inner = self._inner
        return other

    def __eq__(self, other):
        if not isinstance(other, NestedDriver) or self._run != other.run or self._last != other._last:
            return False
        return self._step[0] == other._step[0] and self._outer == other._outer and self._inner == other._inner

    def __str__(self):
        return f"driver at tick {self._run.tick}"

    def _inner_events(self, inner, ends):
        """The events that the inner driver does in this tick, as they are called in the nested plan."""
        end = self._step[0]
        # The outer plan may have the name of the last point, too, for another point.
        names = {end if point == self._last else point: point for point in inner.plan.points}
        told = [names[heard] for heard in ends if heard in names]
        events = inner(tuple(told))
        return tuple([end if event == self._last else event for event in events])

    def _outer_news(self, run, ends, events):
        """What the outer driver is told in this tick, behind the news and the inner events of it."""
        end, _, _, _, delay = self._step
        told = [heard for heard in ends if heard != end and heard in self._outer.plan.ends]
        happened = run.tick if end in events else run.times.get(end, None)
        if happened is not None and delay is not None and happened + delay == run.tick:
            told.append(end)
        return tuple(told)


def _check_parts(outer, end, inner, last):
    """Raises an error if the inner plan with this point cannot be asked for in the place of the step."""
    check_plan(outer)
    delay = outer.step(end)[4]
    check_plan(inner)
    if last == "start" or last not in inner.points:
        raise UnknownName(last)
    if last in inner.ends and delay is not None:
        heard = inner.step(last)[4]
        if heard is None or heard > delay:
            raise InvalidOperation("the end is heard later than the end of the step")


def _span_bounds(begin, end, least, most):
    return (begin, end, most), (end, begin, -least)
