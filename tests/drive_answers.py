"""Slow and plain answers about drivers: stands and rests as the document describes them, looked at in each tick."""

from heardlate.base.arcs import distances, numbers_paper
from heardlate.facts.decided import is_driven
from tests import time_answers
from tests.game_answers import Game, is_driven_from, moment


def stand(run, plain, late):
    """The arcs of the stand of a run for a table."""
    arcs = set((u, v, w) for (u, v), w in plain.items())
    for (u, c), w in late.items():
        if c in run.pending:
            arcs.add((u, run.plan.step(c)[1], w))
    for point, tick in run.times.items():
        if point != "start":
            arcs |= {("start", point, tick), (point, "start", -tick)}
    return tuple(sorted(arcs | {(event, "start", -run.tick) for event in run.left}))


def has_ring(arcs):
    return numbers_paper(arcs)[0] == "ring"


def told_by_table(run, paper):
    """The events that a driver by a table paper does in a run behind the news of its tick."""
    sums = distances(stand(run, paper[1], paper[2]), "start")
    return tuple(event for event in run.left if sums[event] == run.tick)


def told_by_eagerness(run):
    """The events that an eager driver does in a run behind the news of its tick."""
    told = []
    for event in run.left if run.tick <= run.plan.horizon else ():
        if is_driven(run.do(event).rest):
            run = run.do(event)
            told.append(event)
    return tuple(told)


def all_moments(driver):
    """All ways in which a driver can be told news up to the horizon: runs, ends, what it does, and it behind that."""
    drivers = [driver.twin()]
    game = Game(driver.plan)
    while drivers:
        one = drivers.pop()
        run = one.run
        if run.tick <= run.plan.horizon:
            for ends in game.sets(*moment(run)):
                other = one.twin()
                done = other(ends)
                yield run, ends, done, other
                drivers.append(other)


def is_safe(driver):
    """Whether a driver does all events in time and keeps all bounds for all durations."""
    game = Game(driver.plan)
    for run, _, _, other in all_moments(driver):
        if not is_driven_from(game, run) or not is_driven_from(game, other.run):
            return False
        if other.tick > driver.plan.horizon and other.run.left:
            return False
    for durations in time_answers.durations_in_order(driver.plan):
        times = time_answers.times_with(driver.plan, doings(driver, durations), durations)
        if time_answers.broken(driver.plan, times):
            return False
    return True


def doings(driver, durations):
    """The ticks of the events that a driver does with these durations."""
    one = driver.twin()
    done = {"start": 0}
    for tick in range(driver.plan.horizon + 1):
        ends = []
        for end, begin, _, _, delay in driver.plan.steps:
            if begin in done and delay is not None and done[begin] + durations[end] + delay == tick:
                ends.append(end)
        done.update(dict.fromkeys(one(tuple(ends)), tick))
    return {point: tick for point, tick in done.items() if point != "start"}
