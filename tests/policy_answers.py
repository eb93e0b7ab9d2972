"""Slow and plain answers about policies, by playing them against durations tick by tick."""

import itertools
import random

from tests import time_answers


def story(plan, policy, durations):
    """For each tick up to the horizon what was heard and what is done, if a driver goes by the policy."""
    times = {"start": 0}
    told = []
    for tick in range(plan.horizon + 1):
        heard = []
        for end, begin, _, _, delay in plan.steps:
            if begin in times and delay is not None and times[begin] + durations[end] + delay <= tick:
                heard.append((end, times[begin] + durations[end]))
        heard = tuple(sorted(heard))
        done = tuple(event for event in policy.get((tick, heard), ()) if event not in times)
        times.update(dict.fromkeys(done, tick))
        told.append((tick, heard, done))
    return told


def doings(plan, policy, durations):
    return {event: tick for tick, _, done in story(plan, policy, durations) for event in done}


def fails(plan, policy, durations):
    done = doings(plan, policy, durations)
    if len(done) < len(plan.events):
        return True
    return time_answers.broken(plan, time_answers.times_with(plan, done, durations)) != ()


def reached(plan, policy):
    """The pairs that occur for any durations, ascending, and what is done there."""
    found = {}
    for durations in time_answers.durations_in_order(plan):
        for tick, heard, done in story(plan, policy, durations):
            found[(tick, heard)] = done
    return dict(sorted(found.items()))


def some_policy(plan, chance, share=0.3):
    """A policy with some pairs that can occur and some that perhaps cannot."""
    policy = {}
    for _ in range(4):
        for pair in reached(plan, policy):
            if chance.random() < share:
                policy[pair] = tuple(sorted(chance.sample(plan.events, chance.randint(0, len(plan.events)))))
    for _ in range(3):
        ends = sorted(chance.sample(plan.ends, chance.randint(0, len(plan.ends))))
        heard = tuple((end, chance.randint(0, 198)) for end in ends)
        policy[(chance.randint(0, plan.horizon), heard)] = plan.events[:1]
    return policy


def all_policies(plan):
    """All policies over the pairs that can occur in a plan all of whose steps begin at the start."""
    pairs = reached(plan, {})
    doings_of = [
        events for many in range(len(plan.events) + 1) for events in itertools.combinations(plan.events, many)
    ]
    for chosen in itertools.product(doings_of, repeat=len(pairs)):
        yield dict(zip(pairs, chosen))


def some_policies(many, seed, **more):
    chance = random.Random(seed)
    for plan in time_answers.some_plans(many, seed + 1, **more):
        yield plan, some_policy(plan, chance, chance.choice((0.1, 0.3, 0.8)))
