"""Drivers: they play a plan tick by tick, told what is heard."""

from heardlate.drive.stands import first_ticks, last_ticks
from heardlate.errors import InvalidOperation, InvalidTable, TooMany
from heardlate.facts.decided import table_of_driven
from heardlate.facts.tables import is_table_paper
from heardlate.plans.durations import MAX_CHOICES, check_durations, count_durations
from heardlate.plans.plans import Plan
from heardlate.runs.news import heard_in, news_sets, news_with
from heardlate.runs.policies import MAX_ROWS, check_policy, done_in, told_by
from heardlate.runs.runs import Run


class Driver:
    """The base of all drivers, which is not called itself."""

    def _hear(self, run, ends):
        """The run behind this news."""
        if not isinstance(ends, tuple):
            raise InvalidOperation("a driver is told a tuple of ends")
        return run.hear(*ends)

    def _due(self, run, ticks):
        """The events that are left in a run and whose ticks have come, ascending."""
        return tuple([event for event in run.left if ticks[event] <= run.tick])


class TableDriver(Driver):
    """A driver that goes by a table paper and does each event as late as the table permits."""

    def __init__(self, plan, paper):
        if not is_table_paper(plan, paper):
            raise InvalidTable("this is not a table paper of the plan")
        word, plain, late, numbers = paper
        plain = {pair: plain[pair] for pair in plain}
        late = {pair: late[pair] for pair in late}
        self._run = Run(plan)
        self._paper = (word, plain, late, dict(numbers))

    @property
    def plan(self):
        """The plan that is played."""
        return self._run.plan

    @property
    def tick(self):
        """The present tick."""
        return self._run.tick

    @property
    def run(self):
        """The run up to the beginning of the present tick."""
        return self._run

    def __call__(self, ends=()):
        """Hears these ends in the present tick, returns the events that are done in it, and goes on."""
        run = self._hear(self._run, ends)
        events = self._due(run, last_ticks(run, self._paper[1]))
        self._run = run.do(*events).wait()
        return events

    def twin(self):
        """An independent driver in the same state."""
        # The twin begins with the smallest plan, since there is no need to check the paper again.
        other = TableDriver(Plan(0), ("table", {("start", "start"): 0}, {}, {"start": 0}))
        other._run = self._run
        other._paper = self._paper
        return other

    def __eq__(self, other):
        return isinstance(other, TableDriver) and self._run == other.run and self._paper == other._paper

    def __str__(self):
        return f"driver at tick {self._run.tick}"


class EagerDriver(Driver):
    """A driver that does each event as soon as the rest of the run is still driven behind it."""

    def __init__(self, plan):
        self._table = table_of_driven(plan)
        self._run = Run(plan)
        self._ticks = None

    @property
    def plan(self):
        """The plan that is played."""
        return self._run.plan

    @property
    def tick(self):
        """The present tick."""
        return self._run.tick

    @property
    def run(self):
        """The run up to the beginning of the present tick."""
        return self._run

    def __call__(self, ends=()):
        """Hears these ends in the present tick, returns the events that are done in it, and goes on."""
        run = self._hear(self._run, ends)
        ticks = self._ticks
        if ticks is None or len(ends) > 0:
            ticks = first_ticks(run, self._table[0], self._table[1])
        # Whether an event may be done does not depend on what else is done in this tick, so all are done at once.
        events = self._due(run, ticks)
        self._run = run.do(*events).wait()
        self._ticks = ticks if len(events) == 0 else None
        return events

    def twin(self):
        """An independent driver in the same state."""
        # The twin begins with the smallest plan, since there is no need to derive the table again.
        other = EagerDriver(Plan(0))
        other._run = self._run
        other._table = self._table
        other._ticks = self._ticks
        return other

    def __eq__(self, other):
        return isinstance(other, EagerDriver) and self._run == other.run

    def __str__(self):
        return f"driver at tick {self._run.tick}"


class PolicyDriver(Driver):
    """A driver that does what a policy tells."""

    def __init__(self, plan, policy):
        check_policy(plan, policy)
        self._run = Run(plan)
        self._policy = {pair: policy[pair] for pair in policy}

    @property
    def plan(self):
        """The plan that is played."""
        return self._run.plan

    @property
    def tick(self):
        """The present tick."""
        return self._run.tick

    @property
    def run(self):
        """The run up to the beginning of the present tick."""
        return self._run

    def __call__(self, ends=()):
        """Hears these ends in the present tick, returns the events that are done in it, and goes on."""
        run = self._hear(self._run, ends)
        events = told_by(self._policy, run)
        self._run = run.do(*events).wait()
        return events

    def twin(self):
        """An independent driver in the same state."""
        # The twin begins with the smallest plan, since there is no need to check the policy again.
        other = PolicyDriver(Plan(0), {})
        other._run = self._run
        other._policy = self._policy
        return other

    def __eq__(self, other):
        return isinstance(other, PolicyDriver) and self._run == other.run and self._policy == other._policy

    def __str__(self):
        return f"driver at tick {self._run.tick}"


def drive(driver, durations):
    """The events that the driver does with these durations, by ticks, and the run behind the horizon."""
    check_begun(driver)
    check_durations(driver.plan, durations)
    player = driver.twin()
    for _ in range(driver.plan.horizon + 1):
        player(news_with(player.run, durations))
    return done_in(player.run), player.run


def policy_of(driver):
    """The policy that does the same as the driver, with just the pairs in which it does something."""
    check_begun(driver)
    if count_durations(driver.plan) > MAX_CHOICES:
        raise TooMany(MAX_CHOICES)
    policy = {}
    players = [driver.twin()]
    while len(players) > 0:
        player = players.pop()
        tick = player.tick
        sets = news_sets(player.run)
        others = [player.twin() for _ in sets[1:]] + [player]
        for ends, other in zip(sets, others):
            events = other(ends)
            if events != ():
                policy[(tick, heard_in(other.run))] = events
            if other.run.left != () and tick < driver.plan.horizon:
                players.append(other)
        if len(policy) > MAX_ROWS:
            raise TooMany(MAX_ROWS)
    return {pair: policy[pair] for pair in sorted(policy)}


def check_begun(driver):
    """Raises an error if this is not a driver at tick 0."""
    if not isinstance(driver, Driver) or driver.tick != 0:
        raise InvalidOperation("this is not a driver at tick 0")
