"""The game of a driver and the durations, played out tick by tick: slow and plain answers about safe drivers."""

import itertools


def subsets(names):
    """All subsets of some names, by size and then ascending."""
    for many in range(len(names) + 1):
        yield from itertools.combinations(sorted(names), many)


class Game:
    """All moments of the runs of a plan: a tick, the events that are done and the ends that were heard, with ticks."""

    def __init__(self, plan):
        self.plan = plan
        self.known = {}

    def news(self, tick, done, heard):
        """For the ends that were not heard and whose steps have begun, the first and the last tick of their news."""
        found = {}
        begun = {"start": 0, **dict(done)}
        for end, begin, least, most, delay in self.plan.steps:
            if end not in dict(heard) and begin in begun and delay is not None:
                found[end] = (begun[begin] + least + delay, begun[begin] + most + delay)
        return found

    def sets(self, tick, done, heard):
        """All sets of ends that can be heard in a tick."""
        news = self.news(tick, done, heard)
        for ends in subsets([end for end in news if news[end][0] <= tick]):
            if all(end in ends for end in news if news[end][1] == tick):
                yield ends

    def with_news(self, tick, done, heard, ends):
        """What was heard behind these news."""
        return heard | {(end, tick - self.plan.step(end)[4]) for end in ends}

    def left(self, done):
        return [event for event in self.plan.events if event not in dict(done)]

    def all_times(self, tick, done, heard):
        """All times that are still possible before the news of a tick, if all events are done."""
        spans = []
        begun = {"start": 0, **dict(done)}
        for end, begin, least, most, delay in self.plan.steps:
            if end in dict(heard):
                spans.append([dict(heard)[end]])
            else:
                ticks = range(begun[begin] + least, begun[begin] + most + 1)
                spans.append([at for at in ticks if delay is None or at + delay >= tick])
        for ticks in itertools.product(*spans):
            yield {**begun, **dict(zip(self.plan.ends, ticks))}

    def is_kept(self, tick, done, heard):
        """Whether all bounds are kept in all times that are still possible."""
        for times in self.all_times(tick, done, heard):
            if any(times[v] > times[u] + w for u, v, w in self.plan.bounds):
                return False
        return True

    def before(self, tick, done, heard):
        """Whether a driver can go on safely before the news of a tick."""
        at = (tick, done, heard)
        if at not in self.known:
            if tick > self.plan.horizon:
                self.known[at] = not self.left(done) and self.is_kept(tick, done, heard)
            else:
                self.known[at] = all(
                    self.behind(tick, done, self.with_news(tick, done, heard, ends)) for ends in self.sets(*at)
                )
        return self.known[at]

    def behind(self, tick, done, heard):
        """Whether a driver can go on safely behind the news of a tick."""
        if tick > self.plan.horizon:
            return self.before(tick + 1, done, heard)
        return any(self.doing(tick, done, heard, events) for events in subsets(self.left(done)))

    def doing(self, tick, done, heard, events):
        """Whether a driver can go on safely if it does just these events in a tick."""
        if tick > self.plan.horizon and events:
            return False
        return self.before(tick + 1, done | {(event, tick) for event in events}, heard)

    def is_driven(self):
        return self.before(0, frozenset(), frozenset())

    def safe_times(self):
        """The times of all runs of all safe drivers."""
        left = [(0, frozenset(), frozenset())] if self.is_driven() else []
        while left:
            tick, done, heard = left.pop()
            if tick > self.plan.horizon:
                yield from self.all_times(tick, done, heard)
                continue
            for ends in self.sets(tick, done, heard):
                behind = self.with_news(tick, done, heard, ends)
                for events in subsets(self.left(done)):
                    if self.doing(tick, done, behind, events):
                        left.append((tick + 1, done | {(event, tick) for event in events}, behind))


def moment(run):
    """What the game needs to know of a run."""
    done = frozenset((event, run.times[event]) for event in run.plan.events if event in run.times)
    return run.tick, done, frozenset((end, run.times[end]) for end in run.plan.ends if end in run.times)


def is_driven_from(game, run):
    """Whether a driver can go on safely from a run."""
    return game.behind(*moment(run)) if run.is_behind else game.before(*moment(run))
