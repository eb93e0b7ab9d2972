"""Timetables: times for known durations, papers, and ticks for all durations (stage 4)."""

import itertools
import unittest

from heardlate.base.arcs import is_arcs, is_numbers, numbers_paper
from heardlate.errors import InvalidDurations, InvalidPlan, Refuted, TooMany
from heardlate.plans import timetables as module
from heardlate.plans.plans import Plan
from heardlate.plans.times import are_kept, durations_of, is_times
from heardlate.plans.timetables import (
    arcs_of, earliest, first_untimed, fixed_times, is_timetable_paper, known, latest, play, timetable_paper,
)
from tests import arc_answers, time_answers
from tests.samples import EXACT, FIVE_STEPS, NEAR, ODD, TEN_EVENTS, Case

# With d = 1 v must come at 3 or later, with d = 3 at 2 or before.
TORN = Plan(
    6,
    events=("v",),
    steps=(("d", "start", 1, 3, None), ("c", "v", 2, 4, 0)),
    bounds=(("d", "v", 2), ("v", "d", 0), ("start", "c", 4), ("c", "d", -2)),
)
CHAIN = Plan(
    20,
    events=("a", "b", "z"),
    steps=(("e", "a", 3, 5, None), ("f", "b", 2, 2, 7)),
    bounds=(("b", "e", 0), ("z", "f", -1), ("start", "z", 12), ("e", "b", 6)),
)
FUNCTIONS = (known, earliest, latest, play, timetable_paper)


def refused_plans():
    return [value for value in ODD if value is not NEAR] + [{"horizon": 1}, NEAR.bounds, str(NEAR), arcs_of(NEAR)]


def wrong_durations():
    """Values that are no durations of NEAR."""
    return [value for value in ODD if value != {"c": 3}] + [
        {}, {"c": 0}, {"c": 6}, {"c": True}, {"c": "1"}, {"c": 1, "v": 1}, {"v": 1}, {"c": (1,)}, [("c", 1)], {"d": 1},
    ]


class Arcs(Case):
    def test_functions(self):
        for made in FUNCTIONS + (arcs_of, is_timetable_paper, first_untimed, fixed_times):
            self.assertEqual(made.__module__, module.__name__)

    def test_arcs_of(self):
        self.assertEqual(
            arcs_of(NEAR),
            (
                ("c", "start", -1), ("c", "v", 1), ("start", "c", 5), ("start", "v", 10), ("v", "c", 2),
                ("v", "start", 0),
            ),
        )
        self.assertEqual(
            arcs_of(CHAIN),
            (
                ("a", "e", 5), ("a", "start", 0), ("b", "e", 0), ("b", "f", 2), ("b", "start", 0), ("e", "a", -3),
                ("e", "b", 6), ("f", "b", -2), ("start", "a", 20), ("start", "b", 20), ("start", "z", 12),
                ("start", "z", 20), ("z", "f", -1), ("z", "start", 0),
            ),
        )
        self.assertEqual(arcs_of(Plan(0)), ())
        self.assertEqual(arcs_of(Plan(0, events=("v",))), (("start", "v", 0), ("v", "start", 0)))
        self.assertEqual(
            arcs_of(Plan(0, steps=(("c", "start", 4, 4, None),))), (("c", "start", -4), ("start", "c", 4))
        )

    def test_each_arc_once(self):
        plan = NEAR.with_bound("start", "v", 10).with_bound("c", "start", -1).with_bound("v", "start", 0)
        self.assertEqual(arcs_of(plan), arcs_of(NEAR))
        self.assertEqual(len(arcs_of(plan.with_bound("v", "start", -1))), 7)

    def test_the_greatest_plan(self):
        points = ("start",) + TEN_EVENTS + tuple(step[0] for step in FIVE_STEPS)
        bounds = tuple(pair + (500,) for pair in itertools.permutations(points, 2))
        arcs = arcs_of(Plan(99, events=TEN_EVENTS, steps=FIVE_STEPS, bounds=bounds))
        self.assertEqual(len(arcs), 240 + 20 + 10)
        self.assertIs(is_arcs(arcs), True)

    def test_just_the_times_that_keep_the_bounds(self):
        for plan in time_answers.some_plans(60, 51, events=2, horizon=3, longest=2):
            arcs = arcs_of(plan)
            self.assertEqual(arcs, tuple(sorted(set(arcs))))
            others = plan.points[1:]
            for ticks in itertools.product(range(-1, 7), repeat=min(len(others), 3)):
                value = {"start": 0, **dict(zip(others, ticks + (4,)))}
                right = is_times(plan, value) and are_kept(plan, value)
                self.assertIs(all(value[v] <= value[u] + w for u, v, w in arcs), right)

    def test_known(self):
        cut = known(CHAIN, {"f": 2, "e": 4})
        self.assertEqual(cut, CHAIN.with_span("e", 4, 4))
        self.assertEqual(cut.steps, (("e", "a", 4, 4, None), ("f", "b", 2, 2, 7)))
        self.assertEqual(CHAIN.step("e"), ("e", "a", 3, 5, None))
        for plan in (Plan(0), Plan(7, events=("v", "w"), bounds=(("v", "w", 1),))):
            self.assertEqual(known(plan, {}), plan)
        self.assertIsInstance(known(NEAR, {"c": 1}), Plan)

    def test_errors(self):
        for value in refused_plans():
            self.refuses(InvalidPlan, arcs_of, value)
            for call in FUNCTIONS:
                self.refuses(InvalidPlan, call, value, {"c": 3})
                self.refuses(InvalidPlan, call, value, None)
            self.refuses(InvalidPlan, is_timetable_paper, value, {"c": 3}, ("times", {}))
            self.refuses(InvalidPlan, is_timetable_paper, value, None, None)
            self.refuses(InvalidPlan, first_untimed, value)
            self.refuses(InvalidPlan, fixed_times, value)
        torn = NEAR.with_bound("v", "start", -50)
        for plan in (NEAR, torn):
            for value in wrong_durations():
                for call in FUNCTIONS:
                    self.refuses(InvalidDurations, call, plan, value)
                self.refuses(InvalidDurations, is_timetable_paper, plan, value, ("times", {"start": 0, "v": 1, "c": 1}))
                self.refuses(InvalidDurations, is_timetable_paper, plan, value, None)


class Best(Case):
    def check_ring(self, plan, durations, ring):
        self.assertTrue(arc_answers.is_ring(arcs_of(known(plan, durations)), ring), (plan.bounds, ring))

    def test_examples(self):
        self.assertEqual(play(NEAR, {"c": 5}), {"v": (3, 6)})
        self.assertEqual(earliest(EXACT, {"c": 3}), {"c": 3, "start": 0, "v": 2})
        self.assertEqual(latest(EXACT, {"c": 3}), {"c": 3, "start": 0, "v": 2})

    def test_chain(self):
        self.assertEqual(earliest(CHAIN, {"e": 5, "f": 2}), {"a": 0, "b": 5, "e": 5, "f": 7, "start": 0, "z": 8})
        self.assertEqual(latest(CHAIN, {"e": 5, "f": 2}), {"a": 4, "b": 9, "e": 9, "f": 11, "start": 0, "z": 12})
        self.assertEqual(play(CHAIN, {"f": 2, "e": 5}), {"a": (0, 4), "b": (5, 9), "z": (8, 12)})
        self.assertEqual(list(play(CHAIN, {"f": 2, "e": 5})), ["a", "b", "z"])
        self.assertEqual(list(earliest(CHAIN, {"f": 2, "e": 5})), ["a", "b", "e", "f", "start", "z"])
        self.assertEqual(list(latest(CHAIN, {"f": 2, "e": 5})), ["a", "b", "e", "f", "start", "z"])

    def test_no_events_and_no_steps(self):
        for call in (earliest, latest):
            self.assertEqual(call(Plan(0), {}), {"start": 0})
            self.assertEqual(call(Plan(9, events=("v",)), {}), {"start": 0, "v": 0 if call is earliest else 9})
            self.assertEqual(call(Plan(0, steps=(("c", "start", 2, 4, 0),)), {"c": 3}), {"c": 3, "start": 0})
        self.assertEqual(play(Plan(0), {}), {})
        self.assertEqual(play(Plan(9, events=("v",)), {}), {"v": (0, 9)})
        self.assertEqual(play(Plan(0, steps=(("c", "start", 2, 4, 0),)), {"c": 3}), {})
        self.assertEqual(timetable_paper(Plan(0), {}), ("times", {"start": 0}))
        self.assertIs(is_timetable_paper(Plan(0), {}, ("times", {"start": 0})), True)
        self.assertIs(is_timetable_paper(Plan(0), {}, ("ring", ())), False)
        self.assertIs(is_timetable_paper(Plan(0), {}, ("ring", (0,))), False)
        self.assertIsNone(first_untimed(Plan(0)))
        self.assertEqual(fixed_times(Plan(0)), {})

    def test_against_all_times(self):
        kinds = {"times": 0, "ring": 0}
        for plan in time_answers.some_plans(160, 52, horizon=4, longest=3):
            for durations in time_answers.durations_in_order(plan):
                first = time_answers.best_times(plan, durations, min)
                word, shown = timetable_paper(plan, durations)
                kinds[word] += 1
                if first is None:
                    self.assertEqual(word, "ring")
                    self.check_ring(plan, durations, shown)
                    for call in (earliest, latest, play):
                        self.check_ring(plan, durations, self.refuses(Refuted, call, plan, durations).paper)
                    continue
                last = time_answers.best_times(plan, durations, max)
                self.assertEqual(list(earliest(plan, durations).items()), list(first.items()))
                self.assertEqual(list(latest(plan, durations).items()), list(last.items()))
                self.assertEqual(
                    list(play(plan, durations).items()), [(event, (first[event], last[event])) for event in plan.events]
                )
                self.assertEqual(word, "times")
                self.assertTrue(is_times(plan, shown) and are_kept(plan, shown))
                self.assertEqual(durations_of(plan, shown), durations)
                self.assertEqual(list(shown), sorted(shown))
        self.assertGreater(min(kinds.values()), 100)

    def test_refuted(self):
        for durations in ({"d": 3, "c": 2}, {"c": 4, "d": 2}):
            for call in (earliest, latest, play):
                self.check_ring(TORN, durations, self.refuses(Refuted, call, TORN, durations).paper)
            word, ring = timetable_paper(TORN, durations)
            self.assertEqual(word, "ring")
            self.check_ring(TORN, durations, ring)

    def test_refuted_without_events(self):
        plan = Plan(0, steps=(("c", "start", 2, 4, 0),), bounds=(("start", "c", 2),))
        self.assertEqual(latest(plan, {"c": 2}), {"c": 2, "start": 0})
        for call in (earliest, latest, play):
            self.check_ring(plan, {"c": 3}, self.refuses(Refuted, call, plan, {"c": 3}).paper)

    def test_horizon(self):
        plan = Plan(3, events=("v",), steps=(("c", "v", 2, 9, 0),), bounds=(("c", "start", -7),))
        self.assertEqual(play(plan, {"c": 4}), {"v": (3, 3)})
        self.assertEqual(play(plan, {"c": 9}), {"v": (0, 3)})
        self.check_ring(plan, {"c": 3}, self.refuses(Refuted, play, plan, {"c": 3}).paper)

    def test_results_are_independent(self):
        durations = {"f": 2, "e": 5}
        papers = (lambda *values: timetable_paper(*values)[1], lambda plan, _: fixed_times(plan))
        for call in (earliest, latest, play) + papers:
            before = dict(call(CHAIN, durations))
            call(CHAIN, durations)["a"] = 77
            call(CHAIN, durations).clear()
            self.assertEqual(call(CHAIN, durations), before)
        self.assertEqual(list(durations.items()), [("f", 2), ("e", 5)])


class Papers(Case):
    def test_any_times(self):
        for v in range(11):
            paper = ("times", {"c": 5, "v": v, "start": 0})
            self.assertIs(is_timetable_paper(NEAR, {"c": 5}, paper), 3 <= v <= 6)

    def test_no_times(self):
        right = {"start": 0, "v": 4, "c": 5}
        self.assertIs(is_timetable_paper(NEAR, {"c": 5}, ("times", right)), True)
        for value in (
            ("numbers", right), ("time", right), ("ring", right), ("times", right, 0), ["times", right], ("times",),
            (right,), right, ("times", tuple(right.items())), ("times", {**right, "c": 4}),
            ("times", {**right, "v": 7}), ("times", {**right, "v": True}), ("times", {**right, "start": False}),
            ("times", {**right, "x": 0}), ("times", {"v": 4, "c": 5}), ("times", {"start": 0, "v": 4}),
            ("times", {"v": (3, 6)}), ("times", None),
            (right, "times"), ("times", {"start": 1, "v": 5, "c": 6}), (None, right), (0, right), (("times",), right),
            ("ring", ()), ("ring", (0,)), ("table", {}, {}, right), ("Times", right), ("", right), {"times": right},
        ):
            self.assertIs(is_timetable_paper(NEAR, {"c": 5}, value), False, value)
        self.assertIs(is_timetable_paper(NEAR, {"c": 4}, ("times", right)), False)
        self.assertIs(is_timetable_paper(NEAR, {"c": 4}, ("times", {**right, "c": 4})), True)

    def test_other_values(self):
        for value in ODD:
            if value != ("times", {"start": 0, "v": 4, "c": 3}):
                right = type(value) is tuple and value == timetable_paper(NEAR, {"c": 3})
                self.assertIs(is_timetable_paper(NEAR, {"c": 3}, value), right, value)
                self.assertIs(is_timetable_paper(TORN, {"c": 2, "d": 3}, value), False, value)
                self.assertIs(is_timetable_paper(TORN, {"c": 2, "d": 3}, ("ring", value)), False, value)
                self.assertIs(is_timetable_paper(TORN, {"c": 2, "d": 3}, ("times", value)), False, value)
                self.assertIs(is_timetable_paper(TORN, {"c": 2, "d": 3}, (value, ())), False, value)

    def test_times_beyond_the_horizon(self):
        plan = Plan(3, events=("v",))
        for v, right in ((0, True), (3, True), (4, False), (-1, False)):
            self.assertIs(is_timetable_paper(plan, {}, ("times", {"start": 0, "v": v})), right)

    def test_all_small_rings(self):
        durations = {"c": 2, "d": 3}
        arcs = arcs_of(known(TORN, durations))
        found = 0
        for ring in arc_answers.tiny_ways(arcs, 4):
            right = arc_answers.is_ring(arcs, ring)
            self.assertIs(is_timetable_paper(TORN, durations, ("ring", ring)), right)
            found += right
        self.assertGreater(found, 5)

    def test_rings(self):
        durations = {"c": 2, "d": 3}
        ring = timetable_paper(TORN, durations)[1]
        for at in range(len(ring)):
            for times in (1, 2, 3):
                turned = (ring[at:] + ring[:at]) * times
                self.assertIs(is_timetable_paper(TORN, durations, ("ring", turned)), True)
                self.assertIs(is_timetable_paper(TORN, durations, ("ring", list(turned))), False)
                self.assertIs(is_timetable_paper(TORN, durations, ("times", turned)), False)
                self.assertIs(is_timetable_paper(TORN, durations, ("ring", turned, ())), False)
        self.assertIs(is_timetable_paper(TORN, durations, ("ring", ring[:-1])), False)
        for at in range(len(ring)):
            for wrong in (-1, 12, 99, None, True, False, "0", (ring[at],)):
                changed = ring[:at] + (wrong,) + ring[at + 1:]
                self.assertIs(is_timetable_paper(TORN, durations, ("ring", changed)), False)
        self.assertIs(is_timetable_paper(TORN, {"c": 2, "d": 1}, ("ring", ring)), False)
        for word in ("rings", "Ring", "refuted", "numbers", "", None, 0, True, ("ring",), NEAR):
            self.assertIs(is_timetable_paper(TORN, durations, (word, ring)), False)

    def test_rings_are_those_of_the_known_plan(self):
        plan = Plan(0, steps=(("c", "start", 2, 5, 0),), bounds=(("start", "c", 4), ("c", "start", -3)))
        self.assertEqual(
            arcs_of(known(plan, {"c": 5})),
            (("c", "start", -5), ("c", "start", -3), ("start", "c", 4), ("start", "c", 5)),
        )
        self.assertIs(is_timetable_paper(plan, {"c": 5}, ("ring", (0, 2))), True)
        self.assertIs(is_timetable_paper(plan, {"c": 5}, ("ring", (2, 0))), True)
        self.assertIs(is_timetable_paper(plan, {"c": 5}, ("ring", (0, 3))), False)
        self.assertIs(is_timetable_paper(plan, {"c": 5}, ("ring", (1, 2))), False)
        self.assertIs(is_timetable_paper(plan, {"c": 2}, ("ring", (0, 2))), True)
        self.assertIs(is_timetable_paper(plan, {"c": 3}, ("ring", (0, 2))), False)
        self.assertEqual(timetable_paper(plan, {"c": 3}), ("times", {"c": 3, "start": 0}))

    def test_papers_of_arcs_are_no_papers(self):
        arcs = arcs_of(known(NEAR, {"c": 3}))
        paper = numbers_paper(arcs)
        self.assertIs(is_numbers(arcs, paper[1]), True)
        self.assertIs(is_timetable_paper(NEAR, {"c": 3}, paper), False)
        self.assertIs(is_timetable_paper(NEAR, {"c": 3}, ("times", {"start": 5, "v": 8, "c": 8})), False)

    def test_one_kind_exists(self):
        for plan in time_answers.some_plans(150, 53, horizon=2, longest=2, events=2):
            for durations in time_answers.durations_in_order(plan):
                timed = bool(time_answers.kept_times(plan, durations))
                paper = timetable_paper(plan, durations)
                self.assertEqual(paper[0], "times" if timed else "ring")
                self.assertIs(is_timetable_paper(plan, durations, paper), True)
                for done in time_answers.doings(plan):
                    times = time_answers.times_with(plan, done, durations)
                    right = time_answers.broken(plan, times) == ()
                    self.assertIs(is_timetable_paper(plan, durations, ("times", times)), right)


class AllDurations(Case):
    def test_examples(self):
        self.assertIsNone(first_untimed(EXACT))
        self.assertIsNone(fixed_times(NEAR))
        self.assertIsNone(first_untimed(NEAR))

    def test_first_untimed(self):
        self.assertEqual(list(first_untimed(TORN).items()), [("c", 2), ("d", 3)])
        steps = (("c", "start", 1, 9, 0), ("a", "start", 1, 9, 0))
        plan = Plan(0, steps=steps, bounds=(("start", "c", 7), ("a", "c", 4)))
        self.assertEqual(list(first_untimed(plan).items()), [("a", 1), ("c", 6)])
        self.assertEqual(list(first_untimed(plan.without_bound("a", "c")).items()), [("a", 1), ("c", 8)])
        self.assertEqual(first_untimed(Plan(3, events=("v",), bounds=(("v", "start", -4),))), {})
        self.assertIsNone(first_untimed(Plan(3, events=("v",), bounds=(("v", "start", -3),))))

    def test_against_all_times(self):
        found = {"untimed": 0, "fixed": 0, "neither": 0}
        for plan in time_answers.some_plans(300, 54, horizon=6, longest=3):
            untimed = [one for one in time_answers.durations_in_order(plan) if not time_answers.kept_times(plan, one)]
            first = first_untimed(plan)
            self.assertEqual(first, untimed[0] if untimed else None)
            fixed = [done for done in time_answers.doings(plan) if time_answers.keep_always(plan, done)]
            done = fixed_times(plan)
            if fixed:
                self.assertIn(done, fixed)
                self.assertEqual(list(done), list(plan.events))
                self.assertTrue(all(type(tick) is int for tick in done.values()))
            else:
                self.assertIsNone(done)
            found["untimed" if untimed else "fixed" if fixed else "neither"] += 1
        self.assertGreater(min(found.values()), 10)

    def test_fixed_times(self):
        wide = NEAR.with_bound("v", "c", 3).with_bound("c", "v", 1)
        self.assertEqual(fixed_times(wide), {"v": 2})
        bounds = (("start", "v", 4), ("v", "start", -4), ("v", "w", 5), ("w", "v", -5))
        self.assertEqual(fixed_times(Plan(9, events=("w", "v"), bounds=bounds)), {"v": 4, "w": 9})
        plan = Plan(0, steps=(("c", "start", 2, 4, 0),), bounds=(("start", "c", 4), ("c", "start", -2)))
        self.assertEqual(fixed_times(plan), {})
        self.assertIsNone(fixed_times(plan.with_bound("start", "c", 3)))
        self.assertIsNone(fixed_times(plan.with_bound("c", "start", -3)))
        self.assertIsNone(fixed_times(Plan(3, events=("v",), bounds=(("v", "start", -4),))))

    def test_two_ends_of_one_event(self):
        steps = (("c", "v", 2, 4, 0), ("d", "v", 3, 9, None))
        plan = Plan(5, events=("v",), steps=steps, bounds=(("c", "d", 7), ("d", "c", 1)))
        self.assertTrue(time_answers.keep_always(plan, fixed_times(plan)))
        self.assertIsNone(fixed_times(plan.with_bound("c", "d", 6)))
        self.assertIsNone(fixed_times(plan.with_bound("d", "c", 0)))

    def test_delays_do_not_matter(self):
        for plan in time_answers.some_plans(60, 55, horizon=3, longest=3):
            for other in (plan.deaf(), plan.prompt()):
                self.assertEqual(fixed_times(plan) is None, fixed_times(other) is None)
                self.assertEqual(first_untimed(plan), first_untimed(other))

    def test_the_limit(self):
        def spread(*longest):
            return Plan(9, events=("v",), steps=tuple((end, "v", 1, most, 0) for end, most in zip("pqrst", longest)))

        for longest in ((10, 10, 10), (25, 40), (2, 2, 2, 5, 25)):
            self.assertIsNone(first_untimed(spread(*longest)))
            late = spread(*longest).with_bound("v", "p", longest[0] - 1)
            self.assertEqual(first_untimed(late)["p"], longest[0])
        for longest in ((7, 11, 13), (50, 50, 2), (2, 41, 61), (99, 99, 99, 99, 99)):
            self.keeps(TooMany, "limit", 1000, first_untimed, spread(*longest))
            self.keeps(TooMany, "limit", 1000, first_untimed, spread(*longest).with_bound("v", "start", -10))
            self.assertIsNotNone(fixed_times(spread(*longest)))

    def test_results_are_independent(self):
        first_untimed(TORN).clear()
        self.assertEqual(first_untimed(TORN), {"c": 2, "d": 3})


if __name__ == "__main__":
    unittest.main()
