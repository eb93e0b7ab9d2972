"""Runs: what can be heard, done and waited for, and what cannot ([5.1], stage 5)."""

import itertools
import random
import unittest

from heardlate.errors import InvalidNumber, InvalidOperation, InvalidPlan, UnknownName
from heardlate.plans.plans import Plan
from heardlate.runs import runs as module
from heardlate.runs.runs import MAX_TICK, Run
from tests import time_answers
from tests.run_answers import Account
from tests.samples import FORTY, NEAR, ODD, TEN_EVENTS, Case

TWO = Plan(
    9,
    events=("v", "w"),
    steps=(("c", "start", 2, 4, 1), ("d", "start", 1, 5, 2), ("e", "v", 1, 2, 0), ("n", "w", 1, 3, None)),
)
LATE = Plan(99, events=("v",), steps=(("c", "v", 1, 99, 99), ("d", "start", 3, 3, 99)))


def state(run):
    return run.tick, run.is_behind, run.times


def choices(names):
    """All tuples of different names, in every order."""
    for many in range(len(names) + 1):
        yield from itertools.permutations(names, many)


class Begun(Case):
    def test_constant(self):
        self.assertEqual(MAX_TICK, 400)
        self.assertEqual(Run.__module__, module.__name__)

    def test_the_beginning(self):
        for plan in (NEAR, TWO, Plan(0), Plan(99, events=TEN_EVENTS)):
            run = Run(plan)
            self.assertEqual(run.plan, plan)
            self.assertEqual(state(run), (0, False, {"start": 0}))
            self.assertEqual((run.left, run.pending), (plan.events, plan.ends))
            self.assertIs(type(run.is_behind), bool)

    def test_example(self):
        run = Run(NEAR).wait(ticks=2)
        self.assertEqual(run.times, {"start": 0})
        self.assertEqual(run.hear("c").do("v").times, {"c": 2, "start": 0, "v": 2})

    def test_the_plan_is_checked(self):
        for value in ODD + ({"horizon": 1}, NEAR.bounds, str(NEAR)):
            if value is not NEAR:
                self.refuses(InvalidPlan, Run, value)

    def test_a_whole_run(self):
        run = Run(TWO).do("v").wait().hear("e").wait(ticks=2)
        self.assertEqual(state(run), (3, False, {"e": 1, "start": 0, "v": 0}))
        self.assertEqual((run.left, run.pending), (("w",), ("c", "d", "n")))
        run = run.hear("d", "c").do().do("w").do().wait(ticks=6)
        self.assertEqual(state(run), (9, False, {"c": 2, "d": 1, "e": 1, "start": 0, "v": 0, "w": 3}))
        self.assertEqual(list(run.times), ["c", "d", "e", "start", "v", "w"])
        self.assertEqual((run.left, run.pending), ((), ("n",)))

    def test_left_and_pending_ascend(self):
        run = Run(TWO)
        self.assertEqual((run.left, run.pending), (("v", "w"), ("c", "d", "e", "n")))
        self.assertEqual((run.do("w").left, run.do("v").left, run.do("w", "v").left), (("v",), ("w",), ()))
        self.assertEqual(run.wait(ticks=4).hear("d").pending, ("c", "e", "n"))

    def test_a_run_never_changes(self):
        run = Run(TWO).do("v").wait(ticks=2)
        plan = Plan(9, events=TWO.events, steps=TWO.steps)
        before = state(run), run.left, run.pending, run.rest, run.expected(), str(run)
        run.hear("e")
        run.hear("e").do("w").wait().hear("c")
        self.refuses(InvalidOperation, run.wait)
        self.refuses(InvalidOperation, run.do, "w")
        self.refuses(InvalidOperation, run.hear)
        self.refuses(UnknownName, run.hear, "e", "x")
        self.assertEqual((state(run), run.left, run.pending, run.rest, run.expected(), str(run)), before)
        self.assertEqual(run.plan, plan)

    def test_no_access_to_the_state(self):
        run = Run(TWO).do("v").wait(ticks=2)
        for call in (lambda: run.times, run.expected):
            kept = dict(call())
            taken = call()
            taken["v"] = 9
            taken["w"] = 7
            del taken["c" if "c" in taken else "start"]
            self.assertEqual(call(), kept)
        self.assertEqual(run.hear("e").times, {"e": 2, "start": 0, "v": 0})
        self.assertEqual(run.left, ("w",))

    def test_properties_are_not_assigned(self):
        run = Run(NEAR)
        for name in ("plan", "tick", "is_behind", "times", "left", "pending", "rest"):
            self.assertRaises(AttributeError, setattr, run, name, 1)

    def test_no_iteration(self):
        self.assertRaises(TypeError, iter, Run(NEAR))
        self.assertRaises(TypeError, list, Run(NEAR))
        self.assertRaises(TypeError, iter, Plan(0))


class Heard(Case):
    def test_the_first_and_the_last_tick_of_news(self):
        for end, begin, first, last in (("c", (), 3, 5), ("d", (), 3, 7), ("e", ("v",), 1, 2)):
            other = {"c": "d", "d": "c", "e": "e"}[end]
            plan = TWO if end == "e" else TWO.without(other)
            for tick in range(12):
                run = Run(plan).do(*begin)
                while run.tick < tick and run.tick < last:
                    run = run.wait()
                if run.tick < tick:
                    self.refuses(InvalidOperation, run.wait)
                elif first <= tick <= last:
                    heard = run.hear(end)
                    self.assertEqual(heard.times[end], tick - plan.step(end)[4])
                    self.assertEqual((heard.tick, heard.is_behind), (tick, True))
                    self.assertNotIn(end, heard.pending)
                    if tick < last:
                        self.assertEqual(run.hear().times, run.times)
                    else:
                        self.refuses(InvalidOperation, run.hear)
                        self.refuses(InvalidOperation, run.do)
                else:
                    self.refuses(InvalidOperation, run.hear, end)

    def test_two_ends_in_one_tick(self):
        run = Run(TWO).wait(ticks=4)
        for heard in (run.hear("c", "d"), run.hear("d", "c")):
            self.assertEqual(state(heard), (4, True, {"c": 3, "d": 2, "start": 0}))
        self.assertEqual(run.hear("c").times, {"c": 3, "start": 0})
        self.assertEqual(run.hear("d").times, {"d": 2, "start": 0})
        self.assertEqual(state(run.hear()), (4, True, {"start": 0}))

    def test_one_of_two_must_come(self):
        run = Run(TWO).wait(ticks=5)
        self.assertEqual(run.hear("c", "d").times, {"c": 4, "d": 3, "start": 0})
        self.assertEqual(run.hear("c").times, {"c": 4, "start": 0})
        self.refuses(InvalidOperation, run.hear, "d")
        self.refuses(InvalidOperation, run.hear)

    def test_the_greatest_delay(self):
        run = Run(LATE).wait(ticks=99).do("v")
        self.refuses(InvalidOperation, run.wait, ticks=4)
        run = run.wait(ticks=3)
        self.assertEqual(state(run.hear("d")), (102, True, {"d": 3, "start": 0, "v": 99}))
        self.refuses(InvalidOperation, run.wait)
        self.refuses(InvalidOperation, run.hear, "d", "c")
        run = run.hear("d")
        first = run.wait(ticks=97)
        self.assertEqual(first.hear("c").times, {"c": 100, "d": 3, "start": 0, "v": 99})
        self.refuses(InvalidOperation, run.wait(ticks=96).hear, "c")
        last = run.wait(ticks=195)
        self.assertEqual((last.tick, last.hear("c").times["c"]), (297, 198))
        self.refuses(InvalidOperation, run.wait, ticks=196)
        self.refuses(InvalidOperation, last.hear)

    def test_never_heard(self):
        run = Run(TWO.deaf()).do("v", "w")
        for end in ("c", "d", "e", "n"):
            for ticks in (1, 2, 3, 4, 5, 6, 100, 400):
                self.refuses(InvalidOperation, run.wait(ticks=ticks).hear, end)
        self.assertEqual(run.wait(ticks=400).pending, ("c", "d", "e", "n"))

    def test_not_begun(self):
        run = Run(TWO.deaf("c", "d"))
        for ticks in (1, 2, 3, 50):
            self.refuses(InvalidOperation, run.wait(ticks=ticks).hear, "e")

    def test_heard_already_or_twice(self):
        run = Run(TWO).wait(ticks=3)
        self.refuses(InvalidOperation, run.hear, "c", "c")
        self.refuses(InvalidOperation, run.hear("c").wait().hear, "c")
        self.refuses(InvalidOperation, run.hear("c").wait().hear, "d", "c")
        self.assertEqual(run.hear("c").wait().hear("d").times, {"c": 2, "d": 2, "start": 0})

    def test_behind_the_news(self):
        run = Run(TWO).wait(ticks=3)
        for behind in (run.hear(), run.do(), run.hear("c"), run.do("v")):
            self.assertIs(behind.is_behind, True)
            for ends in ((), ("c",), ("d",), ("c", "d"), ("e",)):
                self.refuses(InvalidOperation, behind.hear, *ends)
        self.refuses(InvalidOperation, Run(TWO).hear().hear)

    def test_unknown_ends(self):
        run = Run(TWO).wait(ticks=3)
        for value in ODD + ("v", "w", "start", "x", "C", ("c",), ["c"]):
            self.keeps(UnknownName, "name", value, run.hear, value)
            self.keeps(UnknownName, "name", value, run.hear, "c", value)
            self.keeps(UnknownName, "name", value, run.hear, value, "x")
            self.keeps(UnknownName, "name", value, run.hear, "c", "c", value)
            self.keeps(UnknownName, "name", value, run.hear().hear, value)
            self.keeps(UnknownName, "name", value, run.wait(ticks=2).hear, "e", value)


class Done(Case):
    def test_events(self):
        run = Run(TWO).wait()
        self.assertEqual(state(run.do("v")), (1, True, {"start": 0, "v": 1}))
        for both in (run.do("v", "w"), run.do("w", "v"), run.do("w").do("v"), run.hear().do("v", "w")):
            self.assertEqual(state(both), (1, True, {"start": 0, "v": 1, "w": 1}))
        self.assertEqual(state(run.do()), (1, True, {"start": 0}))
        self.assertEqual(state(run.do().do()), (1, True, {"start": 0}))

    def test_done_already_or_twice(self):
        run = Run(TWO).do("v")
        for events in (("v",), ("w", "v"), ("v", "w"), ("w", "w"), ("v", "v")):
            self.refuses(InvalidOperation, run.do, *events)
            self.refuses(InvalidOperation, run.wait().do, *events)
        self.assertEqual(run.do("w").times, {"start": 0, "v": 0, "w": 0})

    def test_the_horizon(self):
        for horizon in (0, 1, 9, 99):
            plan = Plan(horizon, events=("v", "w"))
            run = Run(plan).wait(ticks=horizon) if horizon else Run(plan)
            self.assertEqual(run.do("v").times, {"start": 0, "v": horizon})
            for later in (run.wait(), run.wait().do(), run.do("w").wait(), run.wait(ticks=50)):
                self.refuses(InvalidOperation, later.do, "v")
                self.assertEqual(state(later.do()), (later.tick, True, later.times))

    def test_news_that_must_come(self):
        run = Run(TWO).wait(ticks=5)
        for events in ((), ("v",), ("v", "w")):
            self.refuses(InvalidOperation, run.do, *events)
        self.assertEqual(run.hear("c").do("v").times, {"c": 4, "start": 0, "v": 5})
        self.assertEqual(Run(TWO).wait(ticks=4).do("v").times, {"start": 0, "v": 4})

    def test_unknown_events(self):
        run = Run(TWO)
        for value in ODD + ("c", "start", "x", "V", ("v",), ["v"]):
            self.keeps(UnknownName, "name", value, run.do, value)
            self.keeps(UnknownName, "name", value, run.do, "v", value)
            self.keeps(UnknownName, "name", value, run.do, value, "x")
            self.keeps(UnknownName, "name", value, run.do, "v", "v", value)
            self.keeps(UnknownName, "name", value, run.do("v").do, "v", value)
            self.keeps(UnknownName, "name", value, run.wait(ticks=5).do, value)
        late = Run(TWO.deaf()).wait(ticks=10)
        self.keeps(UnknownName, "name", "c", late.do, "v", "c")
        self.refuses(InvalidOperation, late.do, "v")


class Waited(Case):
    def test_ticks(self):
        run = Run(TWO)
        self.assertEqual(state(run.wait()), (1, False, {"start": 0}))
        self.assertEqual(state(run.wait(ticks=1)), (1, False, {"start": 0}))
        self.assertEqual(state(run.wait(ticks=5)), (5, False, {"start": 0}))
        self.assertEqual(state(run.do("w").wait(ticks=3)), (3, False, {"start": 0, "w": 0}))
        self.assertEqual(state(run.hear().wait(ticks=3)), (3, False, {"start": 0}))
        self.assertRaises(TypeError, run.wait, 1)

    def test_numbers(self):
        run = Run(Plan(3))
        for value in ODD + (-1, 401, FORTY, "1", (1,)):
            if type(value) is not int or not 1 <= value <= 400:
                self.keeps(InvalidNumber, "value", value, run.wait, ticks=value)
        self.assertEqual(run.wait(ticks=400).tick, 400)
        self.assertEqual(run.wait(ticks=399).tick, 399)

    def test_the_last_tick(self):
        run = Run(Plan(3, events=("v",))).wait(ticks=400)
        self.assertEqual(state(run), (400, False, {"start": 0}))
        self.assertEqual(state(run.hear()), (400, True, {"start": 0}))
        self.assertEqual(state(run.do()), (400, True, {"start": 0}))
        for ticks in (1, 2, 400):
            self.refuses(InvalidOperation, run.wait, ticks=ticks)
            self.refuses(InvalidOperation, run.hear().wait, ticks=ticks)
        self.refuses(InvalidOperation, run.do, "v")
        self.keeps(InvalidNumber, "value", 401, run.wait, ticks=401)
        self.keeps(InvalidNumber, "value", 0, run.wait, ticks=0)
        self.assertEqual(Run(Plan(3)).wait(ticks=300).wait(ticks=100).tick, 400)
        self.refuses(InvalidOperation, Run(Plan(3)).wait(ticks=300).wait, ticks=101)

    def test_news_that_must_come(self):
        run = Run(TWO)
        self.assertEqual(run.wait(ticks=5).tick, 5)
        for ticks in (6, 7, 400):
            self.refuses(InvalidOperation, run.wait, ticks=ticks)
            self.refuses(InvalidOperation, run.hear().wait, ticks=ticks)
        self.refuses(InvalidOperation, run.wait(ticks=5).wait)
        heard = run.wait(ticks=5).hear("c")
        self.assertEqual(heard.wait(ticks=2).tick, 7)
        self.refuses(InvalidOperation, heard.wait, ticks=3)
        self.assertEqual(heard.wait().hear("d").wait(ticks=394).tick, 400)
        self.keeps(InvalidNumber, "value", 0, run.wait(ticks=5).wait, ticks=0)

    def test_a_step_that_begins_on_the_way_does_not_matter(self):
        run = Run(TWO.deaf("c", "d")).wait(ticks=50)
        self.assertEqual(run.wait(ticks=350).tick, 400)
        begun = Run(TWO.deaf("c", "d")).wait(ticks=9).do("v")
        self.assertEqual(begun.wait(ticks=2).tick, 11)
        self.refuses(InvalidOperation, begun.wait, ticks=3)


class AgainstAccounts(Case):
    def compare(self, run, account):
        self.assertEqual(state(run), (account.tick, account.is_behind, account.times()))
        self.assertEqual(list(run.times), sorted(run.times))
        self.assertEqual((run.left, run.pending), (account.left(), account.pending()))
        self.assertEqual(list(run.expected().items()), list(account.expected().items()))
        self.assertEqual((run.rest.steps, run.rest.bounds), (account.steps_left(), account.bounds_left()))
        self.assertEqual((run.rest.horizon, run.rest.events), (run.plan.horizon, run.plan.events))
        self.assertEqual(run.is_over(), account.left() == () and account.expected() == {})

    def moves(self, run, account):
        """All moves from here, with the account behind each of them, or None where it cannot be."""
        for ends in choices(run.plan.ends):
            yield run.hear, ends, {}, account.hear(ends)
        for events in choices(run.plan.events):
            yield run.do, events, {}, account.do(events)
        for ticks in (1, 2, 3, 7):
            yield run.wait, (), {"ticks": ticks}, account.wait(ticks)

    def test_many_runs(self):
        chance = random.Random(61)
        refused = 0
        for plan in time_answers.some_plans(150, 62, steps=3, events=2, longest=3):
            run, account = Run(plan), Account(plan)
            for _ in range(12):
                following = []
                for call, values, more, behind in self.moves(run, account):
                    if behind is None:
                        refused += 1
                        self.refuses(InvalidOperation, call, *values, **more)
                    else:
                        following.append((call(*values, **more), behind))
                self.compare(run, account)
                for one in following:
                    self.compare(*one)
                if not following:
                    break
                run, account = chance.choice(following)
        self.assertGreater(refused, 5000)


if __name__ == "__main__":
    unittest.main()
