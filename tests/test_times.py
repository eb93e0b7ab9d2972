"""Times: which values are some, those of events and durations, and broken bounds ([0.9] to [0.12], stage 3)."""

import itertools
import unittest

from heardlate.errors import InvalidDurations, InvalidPlan, InvalidTimes
from heardlate.plans import times as module
from heardlate.plans.plans import Plan
from heardlate.plans.times import are_kept, broken_bounds, durations_of, is_times, times_of
from tests import time_answers
from tests.samples import FORTY, NEAR, ODD, TEN_EVENTS, Case

TALE = Plan(
    4,
    events=("v", "m"),
    steps=(("c", "start", 1, 5, 0), ("x", "v", 2, 3, None), ("a", "v", 7, 7, 9)),
    bounds=(("c", "x", 0), ("x", "c", 3), ("start", "v", 3), ("m", "v", -1), ("a", "start", -8)),
)
RIGHT = {"start": 0, "v": 3, "m": 4, "c": 5, "x": 5, "a": 10}
FAR = Plan(99, events=("v",), steps=(("c", "v", 1, 99, 0),))


def refused_plans():
    return [value for value in ODD if value is not NEAR] + [{"horizon": 1}, TALE.bounds, str(TALE)]


def wrong_times():
    """Values that are no times of TALE."""
    for value in ODD + (TALE, list(RIGHT), tuple(RIGHT.items()), "start"):
        yield value
    for point in RIGHT:
        less = dict(RIGHT)
        del less[point]
        yield less
        yield {**less, "z": RIGHT[point]}
        yield {**less, (point,): RIGHT[point]}
        yield {**less, None: RIGHT[point]}
        for tick in (-1, FORTY, -FORTY, None, True, False, "", "0", str(RIGHT[point]), (RIGHT[point],), [0], {}, TALE):
            yield {**RIGHT, point: tick}
    for more in ("z", "", None, 0, ()):
        yield {**RIGHT, more: 0}
    outside = {"start": (1, 4), "v": (2, 4, 5), "m": (5, 6), "c": (0, 6), "x": (4, 7), "a": (9, 11)}
    for point in outside:
        for tick in outside[point]:
            yield {**RIGHT, point: tick}


class AreTimes(Case):
    def test_functions(self):
        for made in (is_times, times_of, durations_of, broken_bounds, are_kept):
            self.assertEqual(made.__module__, module.__name__)

    def test_times(self):
        for value in (
            RIGHT, dict(reversed(list(RIGHT.items()))), {**RIGHT, "c": 1}, {**RIGHT, "m": 0}, {**RIGHT, "x": 6},
            {"start": 0, "v": 0, "m": 4, "c": 5, "x": 2, "a": 7},
        ):
            self.assertIs(is_times(TALE, value), True)
        self.assertIs(is_times(Plan(0), {"start": 0}), True)
        self.assertIs(is_times(Plan(99, events=("v",)), {"v": 99, "start": 0}), True)
        self.assertIs(is_times(FAR, {"start": 0, "v": 99, "c": 198}), True)
        self.assertIs(is_times(FAR, {"start": 0, "v": 99, "c": 199}), False)

    def test_no_times(self):
        for value in wrong_times():
            self.assertIs(is_times(TALE, value), False, value)
        for value in ({}, {"start": 1}, {"start": None}, {"start": False}, {"start": 0, "v": 0}, {"v": 0}, None, ()):
            self.assertIs(is_times(Plan(0), value), False, value)
        self.assertIs(is_times(Plan(1, events=("v",)), {"start": 0, "v": True}), False)
        self.assertIs(is_times(Plan(1, events=("v",)), {"start": 0, "v": False}), False)
        self.assertIs(is_times(Plan(1, events=("v",)), {"start": False, "v": 0}), False)
        self.assertIs(is_times(Plan(1, steps=(("c", "start", 1, 2, 0),)), {"start": 0, "c": True}), False)

    def test_all_small_ones(self):
        plan = Plan(2, events=("v",), steps=(("c", "v", 1, 3, 0),))
        right = [{"start": 0, "v": v, "c": v + d} for v in range(3) for d in (1, 2, 3)]
        for start, v, c in itertools.product(range(-2, 8), repeat=3):
            value = {"c": c, "start": start, "v": v}
            self.assertIs(is_times(plan, value), value in right)

    def test_bounds_do_not_matter(self):
        self.assertIs(is_times(TALE.with_bound("v", "m", -999), RIGHT), True)

    def test_the_plan_is_checked(self):
        for value in refused_plans():
            self.refuses(InvalidPlan, is_times, value, {"start": 0})
            self.refuses(InvalidPlan, is_times, value, None)


class Made(Case):
    def test_times_of(self):
        times = times_of(TALE, {"v": 3, "m": 4}, {"x": 2, "c": 5, "a": 7})
        self.assertEqual(times, RIGHT)
        self.assertEqual(list(times), ["a", "c", "m", "start", "v", "x"])
        self.assertEqual(times_of(TALE, {"m": 0, "v": 0}, {"a": 7, "c": 1, "x": 3})["x"], 3)
        self.assertEqual(times_of(Plan(0), {}, {}), {"start": 0})
        self.assertEqual(times_of(FAR, {"v": 99}, {"c": 99}), {"c": 198, "start": 0, "v": 99})
        self.assertEqual(times_of(NEAR, {"v": 10}, {"c": 1}), {"c": 1, "start": 0, "v": 10})

    def test_durations_of(self):
        self.assertEqual(durations_of(TALE, RIGHT), {"a": 7, "c": 5, "x": 2})
        self.assertEqual(list(durations_of(TALE, RIGHT)), ["a", "c", "x"])
        self.assertEqual(durations_of(Plan(0), {"start": 0}), {})
        self.assertEqual(durations_of(FAR, {"c": 198, "start": 0, "v": 99}), {"c": 99})

    def test_all_times(self):
        for plan in time_answers.some_plans(60, 41, horizon=3, events=2):
            for durations in time_answers.durations_in_order(plan):
                for done in time_answers.doings(plan):
                    times = times_of(plan, done, durations)
                    self.assertEqual(times, time_answers.times_with(plan, done, durations))
                    self.assertEqual(list(times), sorted(plan.points))
                    self.assertIs(is_times(plan, times), True)
                    self.assertEqual(list(durations_of(plan, times).items()), sorted(durations.items()))
                    broken = broken_bounds(plan, times)
                    self.assertEqual(broken, time_answers.broken(plan, times))
                    self.assertIs(are_kept(plan, times), broken == ())

    def test_ten_events(self):
        plan = Plan(99, events=TEN_EVENTS)
        done = {event: 90 + at for at, event in enumerate(TEN_EVENTS)}
        self.assertEqual(times_of(plan, done, {}), {**done, "start": 0})

    def test_wrong_ticks_of_events(self):
        right = {"a": 7, "c": 5, "x": 2}
        for done in ODD + (
            {}, {"v": 3}, {"m": 4}, {"v": 3, "m": 4, "start": 0}, {"v": 3, "m": 4, "c": 5}, {"v": 3, "z": 4}, RIGHT,
            {"v": 3, "m": 4, None: 0}, {"v": 3, "start": 0}, {"v": 3, None: 0}, [("v", 3), ("m", 4)], ("v", "m"),
        ):
            self.refuses(InvalidTimes, times_of, TALE, done, right)
        for tick in (-1, 5, 99, FORTY, -FORTY, None, True, False, "3", (3,), [3], {}, TALE):
            self.refuses(InvalidTimes, times_of, TALE, {"v": tick, "m": 4}, right)
            self.refuses(InvalidTimes, times_of, TALE, {"v": 3, "m": tick}, right)
        self.assertIs(is_times(TALE, times_of(TALE, {"v": 0, "m": 4}, right)), True)
        self.refuses(InvalidTimes, times_of, Plan(0), {"start": 0}, {})

    def test_wrong_durations(self):
        for durations in ODD + (
            {}, {"a": 7, "c": 5}, {"a": 7, "c": 5, "x": 2, "v": 3}, {"a": 7, "c": 5, "x": 1}, {"a": 7, "c": 5, "x": 4},
            {"a": 7, "c": True, "x": 2}, {"a": 6, "c": 5, "x": 2}, {"a": 7, "c": 5, "z": 2}, [("a", 7)],
        ):
            self.refuses(InvalidDurations, times_of, TALE, {"v": 3, "m": 4}, durations)
        self.refuses(InvalidDurations, times_of, Plan(0), {}, {"c": 1})

    def test_wrong_times(self):
        for value in wrong_times():
            for call in (durations_of, broken_bounds, are_kept):
                self.refuses(InvalidTimes, call, TALE, value)

    def test_order_of_errors(self):
        for value in refused_plans():
            self.refuses(InvalidPlan, times_of, value, {"v": 1}, {"c": 1})
            self.refuses(InvalidPlan, times_of, value, None, None)
            for call in (durations_of, broken_bounds, are_kept):
                self.refuses(InvalidPlan, call, value, {"start": 0})
                self.refuses(InvalidPlan, call, value, None)
        self.refuses(InvalidTimes, times_of, TALE, {"v": 3}, {"a": 7})
        self.refuses(InvalidTimes, times_of, TALE, {"v": 3, "m": 5}, None)

    def test_arguments_and_results_are_independent(self):
        done = {"v": 3, "m": 4}
        durations = {"x": 2, "c": 5, "a": 7}
        times = times_of(TALE, done, durations)
        times["v"] = 77
        times["z"] = 1
        self.assertEqual(list(done.items()), [("v", 3), ("m", 4)])
        self.assertEqual(list(durations.items()), [("x", 2), ("c", 5), ("a", 7)])
        self.assertEqual(times_of(TALE, done, durations), RIGHT)
        before = dict(RIGHT)
        durations_of(TALE, before)["a"] = 0
        self.assertEqual(durations_of(TALE, before), {"a": 7, "c": 5, "x": 2})
        self.assertIs(is_times(TALE, before) and are_kept(TALE, before), True)
        self.assertEqual(list(before.items()), list(RIGHT.items()))


class Bounds(Case):
    def test_example(self):
        times = {"start": 0, "v": 1, "c": 4}
        self.assertEqual(broken_bounds(NEAR, times), (("v", "c", 2),))
        self.assertIs(are_kept(NEAR, times), False)

    def test_all_kept(self):
        self.assertEqual(broken_bounds(TALE, RIGHT), ())
        self.assertIs(are_kept(TALE, RIGHT), True)
        self.assertEqual(broken_bounds(Plan(0), {"start": 0}), ())
        self.assertIs(are_kept(Plan(0), {"start": 0}), True)

    def test_the_last_tick_that_keeps_a_bound(self):
        plan = Plan(99, events=("a", "b"))
        for most in (-99, -3, -1, 0, 1, 3, 99):
            late = plan.with_bound("a", "b", most)
            for b in range(max(0, most), 100):
                a = b - most
                if a <= 99:
                    self.assertIs(are_kept(late, {"start": 0, "a": a, "b": b}), True)
                    if b < 99:
                        self.assertIs(are_kept(late, {"start": 0, "a": a, "b": b + 1}), False)
                    if b > 0:
                        self.assertIs(are_kept(late, {"start": 0, "a": a, "b": b - 1}), True)

    def test_several_broken(self):
        times = {"start": 0, "v": 4, "m": 0, "c": 1, "x": 6, "a": 11}
        self.assertEqual(broken_bounds(TALE, times), (("c", "x", 0), ("m", "v", -1), ("start", "v", 3)))
        self.assertIs(are_kept(TALE, times), False)
        times = {"start": 0, "v": 0, "m": 0, "c": 5, "x": 2, "a": 7}
        self.assertEqual(broken_bounds(TALE, times), (("a", "start", -8), ("m", "v", -1)))

    def test_greatest_numbers(self):
        plan = Plan(99, events=("a", "b"), bounds=(("a", "b", 999), ("b", "a", -999), ("start", "a", -999)))
        times = {"a": 0, "b": 99, "start": 0}
        self.assertEqual(broken_bounds(plan, times), (("b", "a", -999), ("start", "a", -999)))


if __name__ == "__main__":
    unittest.main()
