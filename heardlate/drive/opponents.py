"""Opponents: they hear just the news behind which no driver of a refuted plan can go on safely."""

from heardlate.drive.drivers import Driver
from heardlate.errors import Driven, InvalidOperation, UnknownName
from heardlate.facts.decided import is_driven, paper_of
from heardlate.runs.news import news_sets
from heardlate.runs.runs import Run


class Opponent:
    """An opponent of a refuted plan, which keeps the rest of the run refuted."""

    def __init__(self, plan):
        if is_driven(plan):
            raise Driven(paper_of(plan))
        self._run = Run(plan)
        self._heard = None
        self._verdict = _verdict_of(self._run)

    @property
    def plan(self):
        """The plan that is played."""
        return self._run.plan

    @property
    def tick(self):
        """The present tick."""
        return self._run.tick

    @property
    def run(self):
        """The run up to the beginning of the present tick."""
        return self._run

    @property
    def verdict(self):
        """What the driver has done wrong, as far as it is certain: an event left undone or a bound, or None."""
        if self._verdict is None or self._verdict[0] == "undone":
            return self._verdict
        word, bound, durations = self._verdict
        return word, bound, dict(durations)

    def __call__(self):
        """The ends that are heard in the present tick, ascending."""
        if self._verdict is not None:
            return ()
        if self._heard is None:
            self._heard = _refuting_news(self._run)
        return self._heard

    def did(self, *events):
        """Is told the events that the driver does in this tick, and goes on to the next one."""
        for event in events:
            if event not in self._run.plan.events:
                raise UnknownName(event)
        if self._verdict is not None:
            raise InvalidOperation("there is a verdict")
        if self._heard is None:
            self._heard = _refuting_news(self._run)
        ends = self._heard
        self._run = self._run.hear(*ends).do(*events).wait()
        self._heard = None
        self._verdict = _verdict_of(self._run)

    def twin(self):
        """An independent opponent in the same state."""
        other = Opponent(self._run.plan)
        other._run = self._run
        other._heard = self._heard
        other._verdict = self._verdict
        return other

    def __eq__(self, other):
        return isinstance(other, Opponent) and self._run == other.run


def duel(driver, opponent):
    """Lets twins of both play until there is a verdict; returns the run and the verdict."""
    if not isinstance(driver, Driver) or not isinstance(opponent, Opponent):
        raise InvalidOperation("a driver and an opponent play a duel")
    if driver.run != opponent.run:
        raise InvalidOperation("the driver and the opponent have different runs")
    player = driver.twin()
    other = opponent.twin()
    while other.verdict is None:
        events = player(other())
        other.did(*events)
    return other.run, other.verdict


def _refuting_news(run):
    """The first set of ends that can be heard now and behind which the rest is refuted."""
    for ends in news_sets(run):
        if not is_driven(run.hear(*ends).rest):
            return ends
    return None


def _verdict_of(run):
    """The verdict on a run whose rest is refuted."""
    left = run.left
    if left != ():
        return None if run.tick <= run.plan.horizon else ("undone", left[0])
    steps = run.rest.steps
    for bound in run.plan.bounds:
        first, second, most = bound
        # Nothing breaks this bound if it is kept with the second point as late and the first one as early as can be.
        durations = {step[0]: step[3] if step[0] == second else step[2] for step in steps}
        times = run.finished(durations)
        if times[second] > times[first] + most:
            return "bound", bound, durations
    return None
