"""A plain account of a run, which keeps all durations with which everything can have happened as it did."""

from tests import time_answers


class Account:
    def __init__(self, plan):
        self.plan = plan
        self.tick = 0
        self.is_behind = False
        self.done = {}
        self.heard = {}
        self.possible = time_answers.durations_in_order(plan)

    def news(self, durations):
        """The ticks in which news come of the steps that have begun, by ends."""
        begun = {"start": 0, **self.done}
        steps = [step for step in self.plan.steps if step[1] in begun and step[4] is not None]
        return {end: begun[begin] + durations[end] + delay for end, begin, _, _, delay in steps}

    def with_just(self, tick, ends):
        """The possible durations with which just the news of these ends come in a tick."""
        found = []
        for durations in self.possible:
            coming = self.news(durations)
            if sorted(end for end in coming if coming[end] == tick) == sorted(ends):
                found.append(durations)
        return found

    def changed(self, **values):
        other = Account.__new__(Account)
        other.__dict__.update(self.__dict__)
        other.__dict__.update(values)
        return other

    def hear(self, ends):
        """The account behind these news, or None if there can be no such."""
        possible = self.with_just(self.tick, ends)
        if self.is_behind or not possible:
            return None
        begun = {"start": 0, **self.done}
        happened = {end: begun[self.plan.step(end)[1]] + possible[0][end] for end in ends}
        return self.changed(is_behind=True, possible=possible, heard={**self.heard, **happened})

    def do(self, events):
        if any(event in self.done for event in events) or (events and self.tick > self.plan.horizon):
            return None
        before = self if self.is_behind else self.hear(())
        return before and before.changed(done={**self.done, **{event: self.tick for event in events}})

    def wait(self, ticks):
        if self.tick + ticks > 400:
            return None
        found = self
        for _ in range(ticks):
            found = found if found.is_behind else found.hear(())
            if found is None:
                return None
            found = found.changed(tick=found.tick + 1, is_behind=False)
        return found

    def times(self):
        return dict(sorted({"start": 0, **self.done, **self.heard}.items()))

    def left(self):
        return tuple(event for event in self.plan.events if event not in self.done)

    def pending(self):
        return tuple(end for end in self.plan.ends if end not in self.heard)

    def expected(self):
        found = {}
        for end in sorted(self.news(self.possible[0])):
            if end in self.pending():
                ticks = [self.news(durations)[end] for durations in self.possible]
                found[end] = (min(ticks), max(ticks))
        return found

    def steps_left(self):
        found = []
        for end, begin, _, _, delay in self.plan.steps:
            taken = [durations[end] for durations in self.possible]
            found.append((end, begin, min(taken), max(taken), delay))
        return tuple(found)

    def bounds_left(self):
        found = [*self.plan.bounds]
        for event in self.plan.events:
            if event in self.done:
                found += [("start", event, self.done[event]), (event, "start", -self.done[event])]
            else:
                found += [(event, "start", -self.tick)]
        pairs = sorted(set(bound[:2] for bound in found))
        return tuple(pair + (min(bound[2] for bound in found if bound[:2] == pair),) for pair in pairs)

    def endings(self):
        """All times that keep the bounds and with which everything can have happened as it did."""
        found = []
        for durations in self.possible:
            for times in time_answers.kept_times(self.plan, durations):
                least = {event: self.done.get(event, self.tick) for event in self.plan.events}
                if all(times[event] >= least[event] for event in least):
                    if all(times[event] == self.done[event] for event in self.done):
                        found.append(times)
        return found
