"""What is left of a run: expected news, the rest, the end of it, and comparisons ([5.2], stage 5)."""

import random
import unittest

from heardlate.errors import InvalidDurations, InvalidOperation
from heardlate.plans.plans import Plan
from heardlate.plans.times import is_times
from heardlate.runs.runs import Run
from tests import time_answers
from tests.run_answers import Account
from tests.samples import EXACT, NEAR, ODD, Case

TWO = Plan(
    9,
    events=("v", "w"),
    steps=(("c", "start", 2, 4, 1), ("d", "start", 1, 5, 2), ("e", "v", 1, 2, 0), ("n", "w", 1, 3, None)),
    bounds=(("start", "v", 3), ("v", "start", -2), ("c", "v", 1), ("w", "start", -4)),
)


def some_runs(seed, plans):
    """Random runs of plans, each moment of them with its account."""
    chance = random.Random(seed)
    for plan in plans:
        run, account = Run(plan), Account(plan)
        for _ in range(10):
            yield run, account
            ends = tuple(chance.sample(plan.ends, chance.randint(0, len(plan.ends))))
            events = tuple(chance.sample(plan.events, chance.randint(0, len(plan.events))))
            ticks = chance.randint(1, 3)
            move = chance.choice(("hear", "hear", "do", "wait"))
            values = {"hear": ends, "do": events, "wait": ()}[move]
            behind = getattr(account, move)(ticks if move == "wait" else values)
            if behind is not None:
                account = behind
                run = run.wait(ticks=ticks) if move == "wait" else getattr(run, move)(*values)


class Expected(Case):
    def test_example(self):
        self.assertEqual(Run(NEAR).wait(ticks=2).expected(), {"c": (2, 5)})

    def test_at_the_beginning(self):
        self.assertEqual(list(Run(TWO).expected().items()), [("c", (3, 5)), ("d", (3, 7))])
        self.assertEqual(Run(TWO).do().expected(), {"c": (3, 5), "d": (3, 7)})
        self.assertEqual(Run(Plan(0)).expected(), {})
        self.assertEqual(Run(TWO.deaf()).do("v", "w").expected(), {})

    def test_before_and_behind_the_news(self):
        run = Run(TWO).wait(ticks=3)
        self.assertEqual(run.expected(), {"c": (3, 5), "d": (3, 7)})
        self.assertEqual(run.hear().expected(), {"c": (4, 5), "d": (4, 7)})
        self.assertEqual(run.do("v").expected(), {"c": (4, 5), "d": (4, 7), "e": (4, 5)})
        self.assertEqual(run.hear("d").expected(), {"c": (4, 5)})
        run = run.wait(ticks=2)
        self.assertEqual(run.expected(), {"c": (5, 5), "d": (5, 7)})
        self.assertEqual(run.hear("c").expected(), {"d": (6, 7)})
        run = run.hear("c").wait(ticks=2)
        self.assertEqual(run.expected(), {"d": (7, 7)})
        self.assertEqual(run.hear("d").expected(), {})

    def test_as_far_as_steps_have_begun(self):
        run = Run(TWO.deaf("c", "d")).wait(ticks=4)
        self.assertEqual(run.expected(), {})
        self.assertEqual(run.do("w").expected(), {})
        self.assertEqual(run.do("v").expected(), {"e": (5, 6)})
        self.assertEqual(run.do("v").wait(ticks=2).expected(), {"e": (6, 6)})
        self.assertEqual(run.do("v").wait(ticks=2).hear("e").expected(), {})

    def test_far_news(self):
        run = Run(Plan(99, events=("v",), steps=(("c", "v", 1, 99, 99),))).wait(ticks=99).do("v")
        self.assertEqual(run.expected(), {"c": (199, 297)})


class Rests(Case):
    def test_example(self):
        run = Run(NEAR).wait(ticks=2)
        self.assertEqual(run.rest.step("c"), ("c", "start", 2, 5, 0))
        self.assertEqual(run.do().rest.step("c"), ("c", "start", 3, 5, 0))

    def test_at_the_beginning(self):
        self.assertEqual(Run(NEAR).rest, NEAR.with_bound("v", "start", 0))
        self.assertEqual(Run(Plan(0)).rest, Plan(0))
        self.assertEqual(Run(TWO).rest.bounds, TWO.bounds)
        self.assertEqual(Run(TWO).do().rest.steps, TWO.steps)

    def test_steps(self):
        run = Run(TWO)
        self.assertEqual(run.wait(ticks=3).rest.steps, TWO.steps[:1] + (("d", "start", 1, 5, 2),) + TWO.steps[2:])
        behind = run.wait(ticks=3).do("v")
        self.assertEqual(
            behind.rest.steps, (("c", "start", 3, 4, 1), ("d", "start", 2, 5, 2), ("e", "v", 1, 2, 0), TWO.steps[3])
        )
        self.assertEqual(behind.wait().rest.steps, behind.rest.steps)
        self.assertEqual(
            behind.wait().hear("d", "e").rest.steps,
            (("c", "start", 4, 4, 1), ("d", "start", 2, 2, 2), ("e", "v", 1, 1, 0), TWO.steps[3]),
        )
        late = run.wait(ticks=5).hear("c", "d").wait(ticks=50)
        self.assertEqual(late.rest.steps, (("c", "start", 4, 4, 1), ("d", "start", 3, 3, 2)) + TWO.steps[2:])

    def test_ends_that_are_never_heard(self):
        run = Run(TWO.deaf()).do("v", "w").wait(ticks=300)
        self.assertEqual(run.rest.steps, TWO.deaf().steps)
        self.assertEqual(run.do().rest.steps, TWO.deaf().steps)

    def test_bounds(self):
        run = Run(TWO).wait()
        self.assertEqual(run.rest.bounds, TWO.bounds)
        run = run.wait(ticks=2)
        self.assertEqual(
            run.rest.bounds, (("c", "v", 1), ("start", "v", 3), ("v", "start", -3), ("w", "start", -4))
        )
        self.assertEqual(
            run.do("v", "w").rest.bounds,
            (("c", "v", 1), ("start", "v", 3), ("start", "w", 3), ("v", "start", -3), ("w", "start", -4)),
        )
        done = Run(TWO).do("v").wait().hear("e")
        self.assertEqual(
            done.rest.bounds, (("c", "v", 1), ("start", "v", 0), ("v", "start", -2), ("w", "start", -4))
        )

    def test_behind_the_horizon(self):
        run = Run(Plan(3, events=("v", "w"))).do("w").wait(ticks=4)
        self.assertEqual(run.rest.bounds, (("start", "w", 0), ("v", "start", -4), ("w", "start", 0)))
        run = run.wait(ticks=396)
        self.assertEqual(run.rest.bounds, (("start", "w", 0), ("v", "start", -400), ("w", "start", 0)))
        self.assertEqual((run.rest.horizon, run.rest.events), (3, ("v", "w")))

    def test_horizon_points_and_delays_stay(self):
        for run, _ in some_runs(71, time_answers.some_plans(40, 72, steps=3)):
            rest = run.rest
            self.assertIsInstance(rest, Plan)
            self.assertEqual((rest.horizon, rest.points), (run.plan.horizon, run.plan.points))
            for step, left in zip(run.plan.steps, rest.steps, strict=True):
                self.assertEqual(left[:2] + left[4:], step[:2] + step[4:])

    def test_just_the_times_that_can_still_be(self):
        compared = 0
        for run, account in some_runs(73, time_answers.some_plans(120, 74, horizon=3, longest=3)):
            left = []
            for durations in time_answers.durations_in_order(run.rest):
                left += time_answers.kept_times(run.rest, durations)
            self.assertEqual(left, account.endings())
            compared += len(left)
        self.assertGreater(compared, 2000)

    def test_the_rest_of_a_rest(self):
        for run, _ in some_runs(75, time_answers.some_plans(40, 76, steps=3)):
            self.assertEqual(Run(run.rest).rest.steps, run.rest.steps)


class Finished(Case):
    def test_is_over(self):
        self.assertIs(Run(Plan(0)).is_over(), True)
        self.assertIs(Run(Plan(0, events=("v",))).is_over(), False)
        self.assertIs(Run(Plan(0, events=("v",))).do("v").is_over(), True)
        self.assertIs(Run(Plan(0, events=("v",))).wait(ticks=400).is_over(), False)
        self.assertIs(Run(NEAR).do("v").is_over(), False)
        self.assertIs(Run(NEAR).do("v").wait().hear("c").is_over(), True)
        self.assertIs(Run(NEAR).wait(ticks=2).hear("c").is_over(), False)
        self.assertIs(Run(NEAR).wait(ticks=2).hear("c").do("v").is_over(), True)
        self.assertIs(Run(NEAR).do("v").wait(ticks=5).is_over(), False)
        self.assertIs(Run(NEAR.deaf()).do("v").is_over(), True)
        self.assertIs(Run(Plan(0, steps=(("c", "start", 1, 1, None),))).is_over(), True)

    def test_ends_that_were_heard(self):
        run = Run(TWO).do("v").wait().hear("e").wait(ticks=2).hear("d").do("w")
        for c in (3, 4):
            for n in (1, 2, 3):
                times = run.finished({"n": n, "e": 1, "d": 1, "c": c})
                self.assertEqual(times, {"c": c, "d": 1, "e": 1, "n": 3 + n, "start": 0, "v": 0, "w": 3})
                self.assertEqual(list(times), ["c", "d", "e", "n", "start", "v", "w"])
        right = {"c": 3, "d": 1, "e": 1, "n": 2}
        for end, duration in (("c", 2), ("c", 5), ("d", 2), ("e", 2), ("n", 4), ("n", 0), ("n", True), ("c", None)):
            self.refuses(InvalidDurations, run.finished, {**right, end: duration})
        self.refuses(InvalidDurations, run.finished, {"c": 3, "n": 2})
        self.refuses(InvalidDurations, run.finished, {**right, "v": 1})

    def test_durations_whose_news_would_have_come(self):
        run = Run(NEAR).wait(ticks=2).do("v")
        self.assertEqual(run.finished({"c": 3}), {"c": 3, "start": 0, "v": 2})
        self.refuses(InvalidDurations, run.finished, {"c": 2})
        run = Run(NEAR).do("v").wait(ticks=2)
        self.assertEqual(run.finished({"c": 2}), {"c": 2, "start": 0, "v": 0})
        self.refuses(InvalidDurations, run.finished, {"c": 1})
        self.refuses(InvalidDurations, run.hear("c").finished, {"c": 3})

    def test_other_durations(self):
        run = Run(TWO).do("v", "w")
        for value in ODD + ({}, [("c", 3)], TWO, TWO.steps):
            self.refuses(InvalidDurations, run.finished, value)
            self.refuses(InvalidDurations, Run(TWO).finished, value)
        self.assertEqual(Run(Plan(0)).finished({}), {"start": 0})
        self.refuses(InvalidDurations, Run(Plan(0)).finished, {"c": 1})
        self.refuses(InvalidDurations, Run(Plan(0)).finished, None)

    def test_an_event_is_not_done(self):
        run = Run(NEAR).wait(ticks=2)
        self.refuses(InvalidOperation, run.finished, {"c": 3})
        self.refuses(InvalidDurations, run.finished, {"c": 1})
        self.refuses(InvalidDurations, run.finished, {"c": 6})
        self.refuses(InvalidOperation, run.hear("c").finished, {"c": 2})
        self.refuses(InvalidOperation, Run(TWO).do("w").finished, {"c": 2, "d": 1, "e": 1, "n": 1})
        self.refuses(InvalidOperation, Run(Plan(3, events=("v",))).wait(ticks=400).finished, {})

    def test_just_the_times_that_can_be(self):
        for run, account in some_runs(77, time_answers.some_plans(150, 78, horizon=4, longest=3)):
            for durations in time_answers.durations_in_order(run.plan):
                if durations not in account.possible:
                    self.refuses(InvalidDurations, run.finished, durations)
                elif run.left:
                    self.refuses(InvalidOperation, run.finished, durations)
                else:
                    times = run.finished(durations)
                    self.assertEqual(times, time_answers.times_with(run.plan, account.done, durations))
                    self.assertEqual(list(times), sorted(times))
                    self.assertTrue(is_times(run.plan, times) and is_times(run.rest, times))
                    self.assertEqual({**times, **run.times}, times)

    def test_nothing_changes(self):
        run = Run(NEAR).wait(ticks=2).do("v")
        durations = {"c": 4}
        run.finished(durations)["v"] = 9
        self.assertEqual(durations, {"c": 4})
        self.assertEqual(run.finished(durations), {"c": 4, "start": 0, "v": 2})
        self.assertEqual(run.times, {"start": 0, "v": 2})


class Compared(Case):
    def test_equal(self):
        again = Plan(9, events=("w", "v"), steps=TWO.steps[::-1], bounds=TWO.bounds[::-1])
        for one, other in (
            (Run(TWO), Run(again)), (Run(TWO).do("v", "w"), Run(again).do("w").do("v")),
            (Run(TWO).wait(ticks=2), Run(TWO).do().wait().wait()), (Run(TWO).hear(), Run(TWO).do()),
            (Run(TWO).wait(ticks=4).hear("c", "d"), Run(again).wait(ticks=4).hear("d", "c")),
        ):
            self.assertIs(one == other, True)
            self.assertIs(one != other, False)

    def test_not_equal(self):
        run = Run(TWO).wait(ticks=3)
        runs = (
            run, run.hear(), run.hear("c"), run.hear("d"), run.do("v"), run.do("w"), run.do("v", "w"), run.wait(),
            run.hear("c").wait(), Run(TWO).do("v").wait().hear("e").wait(ticks=2), Run(TWO),
            Run(TWO.with_bound("start", "v", 4)).wait(ticks=3), Run(TWO.with_horizon(8)).wait(ticks=3),
            Run(TWO.with_delay("c", 2)).wait(ticks=3), Run(Plan(9)).wait(ticks=3),
        )
        for at, one in enumerate(runs):
            for other in runs[:at] + runs[at + 1:]:
                self.assertIs(one == other, False)
                self.assertIs(one != other, True)

    def test_equal_rests_are_not_enough(self):
        plan = Plan(9, events=("v",), steps=(("c", "start", 3, 5, 0),))
        self.assertEqual(Run(plan).do("v").rest, Run(plan).do("v").wait(ticks=2).rest)
        self.assertIs(Run(plan).do("v") == Run(plan).do("v").wait(ticks=2), False)

    def test_other_values(self):
        for value in ODD + (NEAR, EXACT, str(Run(NEAR)), {"start": 0}, Run(NEAR).times, (0, False, {"start": 0})):
            run = Run(NEAR.with_horizon(9))
            self.assertIs(run == value, False)
            self.assertIs(run != value, True)
            self.assertIs(value == run, False)

    def test_str(self):
        self.assertEqual(str(Run(NEAR)), "run at tick 0, 0 done, 0 heard")
        self.assertEqual(str(Run(NEAR).wait(ticks=3).do("v")), "run at tick 3, 1 done, 0 heard")
        self.assertEqual(str(Run(NEAR).wait(ticks=3).hear("c")), "run at tick 3, 0 done, 1 heard")
        run = Run(TWO).do("v").wait().hear("e").do("w").wait(ticks=3).hear("d", "c")
        self.assertEqual(str(run), "run at tick 4, 2 done, 3 heard")
        self.assertEqual(str(Run(Plan(0)).wait(ticks=400)), "run at tick 400, 0 done, 0 heard")


if __name__ == "__main__":
    unittest.main()
