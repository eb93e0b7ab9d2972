"""Slow and plain answers about durations, times and timetables, by trying all of them one after another."""

import itertools
import random

from heardlate.plans.plans import Plan


def durations_in_order(plan):
    """All durations, the first end changing most slowly."""
    spans = [range(least, most + 1) for _, _, least, most, _ in plan.steps]
    return [dict(zip(plan.ends, taken)) for taken in itertools.product(*spans)]


def doings(plan):
    """All dicts from the events to ticks up to the horizon."""
    for ticks in itertools.product(range(plan.horizon + 1), repeat=len(plan.events)):
        yield dict(zip(plan.events, ticks))


def times_with(plan, done, durations):
    times = {"start": 0}
    times.update(done)
    for end, begin, _, _, _ in plan.steps:
        times[end] = times[begin] + durations[end]
    return times


def broken(plan, times):
    return tuple(sorted((u, v, w) for u, v, w in plan.bounds if not times[v] <= times[u] + w))


def kept_times(plan, durations):
    """All times with these durations that keep all bounds."""
    found = []
    for done in doings(plan):
        times = times_with(plan, done, durations)
        if not broken(plan, times):
            found.append(times)
    return found


def best_times(plan, durations, choose):
    """For each point the least or the greatest tick of all times that keep all bounds; None without such times."""
    found = kept_times(plan, durations)
    if not found:
        return None
    return {point: choose(times[point] for times in found) for point in sorted(plan.points)}


def keep_always(plan, done):
    """Whether these ticks of the events keep all bounds for all durations."""
    return all(not broken(plan, times_with(plan, done, durations)) for durations in durations_in_order(plan))


def some_plans(many, seed, *, events=3, steps=2, horizon=5, longest=4, delays=(0, 1, 2, None)):
    """Small plans of many shapes; some have an event that must be near an end, or at a fixed distance from it."""
    chance = random.Random(seed)
    for _ in range(many):
        names = tuple(chance.sample("mvwz", chance.randint(0, events)))
        made = []
        for end in chance.sample("acqx", chance.randint(0, steps)):
            least = chance.randint(1, longest)
            begin = chance.choice(names + ("start",))
            made.append((end, begin, least, chance.randint(least, longest), chance.choice(delays)))
        ends = tuple(step[0] for step in made)
        pairs = list(itertools.permutations(names + ("start",) + ends, 2))
        shift = chance.choice((-1, 0, 1, 3))
        chosen = chance.sample(pairs, min(len(pairs), chance.randint(0, 4)))
        bounds = {pair: shift + chance.randint(-3, 3) for pair in chosen}
        if names and made and chance.random() < 0.6:
            event, step, far = chance.choice(names), chance.choice(made), chance.randint(-1, 2)
            if event != step[1]:
                bounds = {pair: most for pair, most in bounds.items() if most > 2}
                bounds[(event, step[0])] = far
                bounds[(step[0], event)] = chance.randint(0, 1) - far
        bounds = tuple(pair + (most,) for pair, most in bounds.items())
        yield Plan(chance.randint(0, horizon), events=names, steps=tuple(made), bounds=bounds)
