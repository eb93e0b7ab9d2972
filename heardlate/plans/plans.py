"""Plans: a horizon, events that a driver does, steps whose durations others choose, and bounds."""

from heardlate.base.integers import is_between
from heardlate.errors import InvalidNumber, InvalidOperation, InvalidPlan, TooMany, UnknownName
from heardlate.plans.checks import are_bounds, are_events, are_steps

MAX_EVENTS = 10
MAX_STEPS = 5
MAX_HORIZON = 99

_KEYS = ("horizon", "events", "steps", "bounds")


class Plan:
    """A plan, which never changes."""

    def __init__(self, horizon, *, events=(), steps=(), bounds=()):
        if not is_between(horizon, 0, MAX_HORIZON):
            raise InvalidNumber(horizon)
        _check_parts(events, steps, bounds)
        self._horizon = horizon
        self._events = tuple(sorted(events))
        self._steps = tuple(sorted(steps))
        self._bounds = tuple(sorted(bounds))
        self._ends = tuple([step[0] for step in self._steps])
        self._points = ("start",) + self._events + self._ends
        self._step_by_end = {step[0]: step for step in self._steps}
        self._most_by_pair = {(first, second): most for first, second, most in self._bounds}

    @classmethod
    def of(cls, values):
        """The plan with the values of a dict with the key "horizon" and perhaps the other three."""
        if not isinstance(values, dict) or "horizon" not in values:
            raise InvalidPlan("a plan is made of a dict with a horizon")
        if not all([key in _KEYS for key in values]):
            raise InvalidPlan("a plan has a horizon, events, steps and bounds, and nothing else")
        return cls(
            values["horizon"],
            events=values.get("events", ()),
            steps=values.get("steps", ()),
            bounds=values.get("bounds", ()),
        )

    @property
    def horizon(self):
        """The last tick in which events can be done."""
        return self._horizon

    @property
    def events(self):
        """The events, ascending."""
        return self._events

    @property
    def steps(self):
        """The steps, ascending."""
        return self._steps

    @property
    def bounds(self):
        """The bounds, ascending."""
        return self._bounds

    @property
    def ends(self):
        """The ends of the steps, ascending."""
        return self._ends

    @property
    def points(self):
        """The start, then the events, then the ends."""
        return self._points

    def step(self, end):
        """The step of an end."""
        if end not in self._ends:
            raise UnknownName(end)
        return self._step_by_end[end]

    def bound(self, first, second):
        """The number of the bound for a pair of points, or None."""
        self._check_points((first, second))
        return self._most_by_pair.get((first, second), None)

    def with_bound(self, first, second, most):
        """The plan with this bound, in the place of the one for this pair."""
        self._check_points((first, second))
        bounds = self._bounds_but(first, second) + ((first, second, most),)
        return Plan(self._horizon, events=self._events, steps=self._steps, bounds=bounds)

    def without_bound(self, first, second):
        """The plan without the bound for this pair."""
        if self.bound(first, second) is None:
            raise InvalidOperation("there is no bound for this pair")
        bounds = self._bounds_but(first, second)
        return Plan(self._horizon, events=self._events, steps=self._steps, bounds=bounds)

    def with_event(self, event):
        """The plan with one more event."""
        return Plan(self._horizon, events=self._events + (event,), steps=self._steps, bounds=self._bounds)

    def with_step(self, end, begin, least, most, delay):
        """The plan with this step, in the place of the one with this end."""
        others = tuple([step for step in self._steps if step[0] != end])
        steps = others + ((end, begin, least, most, delay),)
        return Plan(self._horizon, events=self._events, steps=steps, bounds=self._bounds)

    def without(self, point):
        """The plan without an event or an end, its step and all bounds of it."""
        if point == "start":
            raise UnknownName(point)
        self._check_points((point,))
        if point in [step[1] for step in self._steps]:
            raise InvalidOperation("a step begins at this event")
        return Plan(
            self._horizon,
            events=tuple([event for event in self._events if event != point]),
            steps=tuple([step for step in self._steps if step[0] != point]),
            bounds=tuple([bound for bound in self._bounds if point not in bound[:2]]),
        )

    def with_span(self, end, least, most):
        """The plan in which the step of an end has this span."""
        step = self.step(end)
        return self.with_step(end, step[1], least, most, step[4])

    def with_delay(self, end, delay):
        """The plan in which the step of an end has this delay."""
        step = self.step(end)
        return self.with_step(end, step[1], step[2], step[3], delay)

    def with_horizon(self, horizon):
        """The plan with this horizon."""
        if not is_between(horizon, 0, MAX_HORIZON):
            raise InvalidPlan("a horizon is an integer from 0 to 99")
        return Plan(horizon, events=self._events, steps=self._steps, bounds=self._bounds)

    def deaf(self, *ends):
        """The plan in which these ends, or all ends, are never heard."""
        return self._with_delays(ends, None)

    def prompt(self, *ends):
        """The plan in which these ends, or all ends, are heard without delay."""
        return self._with_delays(ends, 0)

    def renamed(self, **names):
        """The plan with new names for events and ends, by their old ones."""
        return self.renamed_by(names)

    def renamed_by(self, names):
        """The plan with new names for events and ends, from a dict by their old ones."""
        if not isinstance(names, dict) or not all([isinstance(name, str) for name in names]):
            raise InvalidOperation("new names are a dict from strings")
        for name in sorted(names):
            if name == "start" or name not in self._points:
                raise UnknownName(name)
        new = {point: names.get(point, point) for point in self._points}
        steps = [(new[end], new[begin], least, most, delay) for end, begin, least, most, delay in self._steps]
        return Plan(
            self._horizon,
            events=tuple([new[event] for event in self._events]),
            steps=tuple(steps),
            bounds=tuple([(new[first], new[second], most) for first, second, most in self._bounds]),
        )

    def within(self, other):
        """Whether the other plan has the same points and begins of steps and asks for no more than this one."""
        check_plan(other)
        if self._events != other.events or self._ends != other.ends or self._horizon > other.horizon:
            return False
        if not all([_asks_no_more(step, other.step(step[0])) for step in self._steps]):
            return False
        for first, second, most in other.bounds:
            mine = self.bound(first, second)
            if mine is None or mine > most:
                return False
        return True

    def __or__(self, other):
        if not isinstance(other, Plan) or other.horizon != self._horizon:
            raise InvalidOperation("the other one is not a plan with the same horizon")
        for event in self._events + other.events:
            if event in self._ends or event in other.ends:
                raise InvalidOperation("a name is an event of one and an end of the other")
        for step in other.steps:
            if step[0] in self._ends and self.step(step[0]) != step:
                raise InvalidOperation("the plans have different steps with the same end")
        return Plan(
            self._horizon,
            events=tuple(sorted(set(self._events + other.events))),
            steps=tuple(sorted(set(self._steps + other.steps))),
            bounds=least_bounds(self._bounds + other.bounds),
        )

    def __contains__(self, value):
        return value in self._points

    def __len__(self):
        return len(self._points)

    def __eq__(self, other):
        if not isinstance(other, Plan) or self._horizon != other.horizon or self._events != other.events:
            return False
        return self._steps == other.steps and self._bounds == other.bounds

    def __str__(self):
        return f"plan of {len(self._events)} events, {len(self._steps)} steps, {len(self._bounds)} bounds"

    def _check_points(self, points):
        for point in points:
            if point not in self._points:
                raise UnknownName(point)

    def _bounds_but(self, first, second):
        return tuple([bound for bound in self._bounds if bound[:2] != (first, second)])

    def _with_delays(self, ends, delay):
        for end in ends:
            if end not in self._ends:
                raise UnknownName(end)
        chosen = ends or self._ends
        steps = [step[:4] + (delay,) if step[0] in chosen else step for step in self._steps]
        return Plan(self._horizon, events=self._events, steps=tuple(steps), bounds=self._bounds)


def check_plan(plan):
    """Raises an error if this is not a plan."""
    if not isinstance(plan, Plan):
        raise InvalidPlan("this is not a plan")


def least_bounds(bounds):
    """Of several bounds for one pair only the one with the least number."""
    least = {}
    for first, second, most in bounds:
        least[(first, second)] = min(most, least.get((first, second), most))
    return tuple([(first, second, most) for (first, second), most in least.items()])


def _check_parts(events, steps, bounds):
    """Raises an error if these are no events, steps and bounds of a plan; numbers are looked at last."""
    if not are_events(events):
        raise InvalidPlan("events are a tuple of different names other than start")
    if not are_steps(steps, events):
        raise InvalidPlan("steps are a tuple of steps with different ends that are no other points")
    points = ("start",) + events + tuple([step[0] for step in steps])
    if not are_bounds(bounds, points):
        raise InvalidPlan("bounds are a tuple of bounds over different points, one for each pair")
    if len(events) > MAX_EVENTS:
        raise TooMany(MAX_EVENTS)
    if len(steps) > MAX_STEPS:
        raise TooMany(MAX_STEPS)


def _asks_no_more(step, other):
    """Whether the other step has the same begin, a span within that of the step, and no longer delay."""
    if step[1] != other[1] or other[2] < step[2] or other[3] > step[3]:
        return False
    # A delay of None is longer than all others.
    return step[4] is None or (other[4] is not None and other[4] <= step[4])
