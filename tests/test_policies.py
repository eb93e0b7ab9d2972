"""Policies: what they are, how they are played, and when they are safe ([6.1], stage 6)."""

import unittest

from heardlate.errors import InvalidDurations, InvalidPlan, InvalidPolicy, TooMany
from heardlate.plans.durations import all_durations
from heardlate.plans.plans import Plan
from heardlate.runs import policies as module
from heardlate.runs.policies import (
    MAX_ROWS, first_failure, is_policy, is_safe, played, reached_pairs, trimmed,
)
from heardlate.runs.runs import Run
from tests import policy_answers, time_answers
from tests.game_answers import Game
from tests.samples import EARLY, EXACT, FIVE_STEPS, FORTY, NEAR, ODD, TEN_EVENTS, Case

TWO = Plan(
    9,
    events=("v", "w"),
    steps=(("c", "start", 2, 4, 1), ("d", "v", 1, 2, 0), ("n", "start", 1, 3, None)),
    bounds=(("c", "v", 4), ("d", "w", 3)),
)
FAR = Plan(99, events=("v",), steps=(("c", "v", 1, 99, 99), ("d", "v", 1, 99, 0)))
WIDE = Plan(99, events=("v",), steps=(("c", "start", 1, 50, 0), ("d", "start", 1, 50, 0), ("e", "v", 1, 2, 0)))
# Odd values that are policies of no plan here.
WRONG = [value for value in ODD if value != {} and value != EARLY]


def pairs(many, plan=FAR):
    """A policy with so many pairs."""
    found = {}
    for tick in range(plan.horizon + 1):
        for at in range(199):
            if len(found) < many:
                found[(tick, (("c", at),))] = plan.events[:1]
    return found


class IsPolicy(Case):
    def test_constant(self):
        self.assertEqual(MAX_ROWS, 2000)
        for name in ("is_policy", "played", "first_failure", "is_safe", "reached_pairs", "trimmed"):
            self.assertEqual(getattr(module, name).__module__, "heardlate.runs.policies")

    def test_policies(self):
        for value in (
            {}, EARLY, {(0, ()): ()}, {(10, ()): ("v",)}, {(0, (("c", 198),)): ("v",)}, {(3, (("c", 0),)): ()},
            {(4, (("c", 9),)): ("v",), (4, ()): ("v",)},
        ):
            self.assertIs(is_policy(NEAR, value), True, value)
        for value in (
            {(9, (("c", 2), ("d", 198), ("n", 0))): ("v", "w")}, {(9, (("d", 3), ("n", 3))): ("w",)},
            {(0, (("c", 9), ("d", 1))): ("v",)}, {(5, ()): ("v", "w"), (6, ()): ("v", "w"), (5, (("n", 1),)): ()},
        ):
            self.assertIs(is_policy(TWO, value), True, value)
        self.assertIs(is_policy(Plan(0), {(0, ()): ()}), True)

    def test_ticks(self):
        for plan in (NEAR, NEAR.with_horizon(0), NEAR.with_horizon(99)):
            for tick in (*range(-2, 102), FORTY, -FORTY):
                self.assertIs(is_policy(plan, {(tick, ()): ("v",)}), 0 <= tick <= plan.horizon)
        for tick in (True, False, None, "1", (), (1,), ("c", 1)):
            self.assertIs(is_policy(NEAR, {(tick, ()): ("v",)}), False)

    def test_ticks_of_ends(self):
        for tick in (*range(-3, 203), FORTY, -FORTY):
            self.assertIs(is_policy(NEAR, {(4, (("c", tick),)): ("v",)}), 0 <= tick <= 198)
            self.assertIs(is_policy(TWO, {(4, (("c", 1), ("d", tick))): ("v",)}), 0 <= tick <= 198)
        for tick in (True, False, None, "1", (), (1,)):
            self.assertIs(is_policy(NEAR, {(4, (("c", tick),)): ("v",)}), False)

    def test_ends(self):
        for heard in (
            (("v", 1),), (("start", 0),), (("x", 1),), (("C", 1),), (("", 1),), ((None, 1),), ((("c",), 1),), ((1, 1),),
            (("d", 1), ("c", 1)), (("c", 2), ("c", 3)), (("c", 2), ("c", 2)), (("c", 1), ("n", 1), ("d", 1)),
            ("c", 1), (("c", 1, 1),), (("c",),), ((),), ("c1",), ("c",), (("c", 1), None), (None,), ("cc",),
        ):
            self.assertIs(is_policy(TWO, {(4, heard): ("v",)}), False, heard)
        for heard in (None, "", "c", 0, True, ("c", 1), "start"):
            self.assertIs(is_policy(TWO, {(4, heard): ("v",)}), False, heard)

    def test_keys(self):
        for key in (4, "4", None, True, (), (4,), (4, (), ()), ((), 4), ((4, ()),), "vw", "", (4, ("c", 1))):
            self.assertIs(is_policy(TWO, {key: ("v",)}), False, key)
            self.assertIs(is_policy(TWO, {(4, ()): ("v",), key: ("v",)}), False, key)

    def test_events(self):
        for events in (
            ("w", "v"), ("v", "v"), ("c",), ("start",), ("x",), ("v", "x"), (None,), (("v",),), (["v"],), (0,), (True,),
            ["v"], "v", "", None, {}, {"v": 1}, [], "vw", ("",),
        ):
            self.assertIs(is_policy(TWO, {(4, ()): events}), False, events)
            self.assertIs(is_policy(TWO, {(3, ()): ("v",), (4, ()): events}), False, events)
        for value in ODD:
            if value != ():
                self.assertIs(is_policy(TWO, {(4, ()): value}), False)

    def test_the_limit(self):
        self.assertIs(is_policy(FAR, pairs(1999)), True)
        self.assertIs(is_policy(FAR, pairs(2000)), True)
        self.assertIs(is_policy(FAR, pairs(2001)), False)
        self.assertIs(is_policy(FAR, pairs(4000)), False)
        self.refuses(InvalidPolicy, played, FAR, pairs(2001), {"c": 1, "d": 1})
        self.assertEqual(played(FAR, pairs(2000), {"c": 1, "d": 1})[0], {})

    def test_other_values(self):
        for value in (*WRONG, ((0, ()), ("v",)), [((0, ()), ("v",))], (((0, ()), ("v",)),)):
            self.assertIs(is_policy(TWO, value), False, value)

    def test_policies_of_other_plans(self):
        self.assertIs(is_policy(EXACT, EARLY), True)
        self.assertIs(is_policy(NEAR.with_horizon(2), EARLY), False)
        self.assertIs(is_policy(NEAR.renamed(v="x"), EARLY), False)
        self.assertIs(is_policy(NEAR.renamed(c="x"), EARLY), False)
        self.assertIs(is_policy(NEAR.renamed(c="v", v="c"), EARLY), False)

    def test_the_plan_is_checked(self):
        for value in ODD:
            if not isinstance(value, Plan):
                self.refuses(InvalidPlan, is_policy, value, EARLY)
                self.refuses(InvalidPlan, is_policy, value, None)
                self.refuses(InvalidPlan, is_safe, value, None)

    def test_nothing_changes(self):
        value = dict(reversed(EARLY.items()))
        is_policy(NEAR, value)
        self.assertEqual(list(value.items()), list(EARLY.items())[::-1])


class Played(Case):
    def test_examples(self):
        self.assertEqual(played(NEAR, EARLY, {"c": 5})[0], {"v": 3})
        self.assertEqual(played(NEAR, EARLY, {"c": 1})[0], {"v": 1})

    def test_the_run(self):
        done, run = played(NEAR, EARLY, {"c": 5})
        self.assertEqual(run, Run(NEAR).wait(ticks=3).do("v").wait(ticks=2).hear("c").wait(ticks=6))
        self.assertEqual((run.tick, run.is_behind, run.times), (11, False, {"c": 5, "start": 0, "v": 3}))
        done, run = played(NEAR, {}, {"c": 5})
        self.assertEqual((done, run.tick, run.left), ({}, 11, ("v",)))
        done, run = played(Plan(0), {}, {})
        self.assertEqual((done, run), ({}, Run(Plan(0)).wait()))
        done, run = played(FAR, {(99, ()): ("v",)}, {"c": 99, "d": 99})
        self.assertEqual((done, run), ({"v": 99}, Run(FAR).wait(ticks=99).do("v").wait()))

    def test_the_order_of_keys(self):
        policy = {(1, ()): ("w",), (2, ()): ("v",)}
        done, run = played(TWO, policy, {"c": 4, "d": 1, "n": 1})
        self.assertEqual(list(done.items()), [("v", 2), ("w", 1)])

    def test_news_of_the_tick_counts(self):
        policy = {(3, (("c", 2),)): ("v",), (4, ()): ("v",)}
        for duration, tick in ((2, 3), (3, None), (4, 4)):
            done, _ = played(TWO, policy, {"c": duration, "d": 1, "n": 1})
            self.assertEqual(done, {} if tick is None else {"v": tick})

    def test_what_was_heard_before_still_counts(self):
        policy = {(7, (("c", 2),)): ("v",)}
        self.assertEqual(played(TWO, policy, {"c": 2, "d": 1, "n": 1})[0], {"v": 7})
        self.assertEqual(played(TWO, policy, {"c": 3, "d": 1, "n": 1})[0], {})
        self.assertEqual(played(TWO, {(7, ()): ("v",)}, {"c": 3, "d": 1, "n": 1})[0], {})
        # An end that is never heard belongs to no pair that can occur.
        self.assertEqual(played(TWO, {(7, (("c", 2), ("n", 1))): ("v",)}, {"c": 2, "d": 1, "n": 1})[0], {})

    def test_events_that_are_done_already(self):
        policy = {(1, ()): ("v",), (2, ()): ("v", "w"), (3, (("d", 2),)): ("v",), (2, (("d", 2),)): ("v", "w")}
        done, run = played(TWO, policy, {"c": 4, "d": 1, "n": 1})
        self.assertEqual(done, {"v": 1, "w": 2})
        self.assertEqual(played(TWO, policy, {"c": 4, "d": 2, "n": 1})[0], {"v": 1, "w": 2})

    def test_pairs_that_cannot_occur(self):
        extra = {(0, (("c", 3),)): ("v",), (9, (("c", 198),)): ("v",), (3, (("c", 5),)): ("v",), (10, ()): ("v",)}
        for duration in range(1, 6):
            durations = {"c": duration}
            self.assertEqual(played(NEAR, {**EARLY, **extra}, durations), played(NEAR, EARLY, durations))

    def test_against_a_plain_answer(self):
        for plan, policy in policy_answers.some_policies(120, 5, steps=3):
            for durations in time_answers.durations_in_order(plan)[:20]:
                done, run = played(plan, policy, durations)
                self.assertEqual(done, policy_answers.doings(plan, policy, durations))
                self.assertEqual(list(done), sorted(done))
                self.assertEqual((run.plan, run.tick, run.is_behind), (plan, plan.horizon + 1, False))
                self.assertEqual({**run.times, **done}, run.times)
                self.assertEqual([event for event in run.times if event in plan.events], list(done))
                again = Run(plan)
                for tick, heard, events in policy_answers.story(plan, policy, durations):
                    ends = [end for end, at in heard if at + plan.step(end)[4] == tick]
                    again = again.hear(*ends).do(*events).wait()
                self.assertEqual(run, again)

    def test_errors(self):
        for value in ODD:
            if not isinstance(value, Plan):
                self.refuses(InvalidPlan, played, value, EARLY, {"c": 1})
                self.refuses(InvalidPlan, played, value, None, None)
            self.refuses(InvalidDurations, played, NEAR, EARLY, value)
        for value in WRONG:
            self.refuses(InvalidPolicy, played, NEAR, value, {"c": 1})
            self.refuses(InvalidPolicy, played, NEAR, value, None)
        for durations in ({"c": 0}, {"c": 6}, {"c": True}, {}, {"c": 1, "v": 1}):
            self.refuses(InvalidDurations, played, NEAR, EARLY, durations)
            self.refuses(InvalidPolicy, played, NEAR, {(11, ()): ()}, durations)

    def test_nothing_changes(self):
        policy = dict(reversed(EARLY.items()))
        durations = {"c": 5}
        done, run = played(NEAR, policy, durations)
        done["v"] = 9
        self.assertEqual(list(policy.items()), list(EARLY.items())[::-1])
        self.assertEqual(durations, {"c": 5})
        self.assertEqual(played(NEAR, policy, durations), ({"v": 3}, run))


class Safe(Case):
    def test_examples(self):
        self.assertIs(is_safe(NEAR, EARLY), True)
        self.assertIsNone(first_failure(NEAR, EARLY))
        self.assertEqual(first_failure(NEAR, {(3, ()): ("v",)}), {"c": 1})

    def test_undone_and_broken(self):
        for pair in EARLY:
            policy = {other: EARLY[other] for other in EARLY if other != pair}
            self.assertIs(is_safe(NEAR, policy), False)
        self.assertEqual(first_failure(NEAR, {**EARLY, (3, ()): ()}), {"c": 4})
        self.assertEqual(first_failure(NEAR, {**EARLY, (3, (("c", 3),)): ()}), {"c": 3})
        self.assertEqual(first_failure(NEAR, {**EARLY, (2, ()): ("v",)}), {"c": 5})
        self.assertEqual(first_failure(NEAR, {}), {"c": 1})
        self.assertIs(is_safe(NEAR.with_bound("v", "c", 3), {**EARLY, (2, ()): ("v",)}), True)

    def test_ends_that_are_not_heard_count_for_bounds(self):
        plan = Plan(3, steps=(("c", "start", 1, 5, None), ("d", "start", 4, 6, 99)), bounds=(("start", "c", 3),))
        self.assertEqual(first_failure(plan, {}), {"c": 4, "d": 4})
        plan = Plan(3, steps=plan.steps, bounds=(("start", "d", 5),))
        self.assertEqual(first_failure(plan, {}), {"c": 1, "d": 6})
        self.assertIsNone(first_failure(plan.with_bound("start", "d", 6), {}))

    def test_plans_without_steps_or_events(self):
        self.assertIs(is_safe(Plan(0), {}), True)
        self.assertIs(is_safe(Plan(2, events=("v",)), {}), False)
        self.assertEqual(first_failure(Plan(2, events=("v",)), {}), {})
        self.assertIs(is_safe(Plan(2, events=("v",)), {(2, ()): ("v",)}), True)
        self.assertIs(is_safe(Plan(2, events=("v",), bounds=(("start", "v", 1),)), {(2, ()): ("v",)}), False)

    def test_against_a_plain_answer(self):
        safe = 0
        for plan, policy in policy_answers.some_policies(400, 15):
            failing = [one for one in all_durations(plan) if policy_answers.fails(plan, policy, one)]
            found = first_failure(plan, policy)
            self.assertEqual(found, failing[0] if failing else None)
            self.assertIs(is_safe(plan, policy), not failing)
            safe += not failing
        self.assertGreater(safe, 20)

    def test_driven_plans_are_those_with_a_safe_policy(self):
        driven = 0
        for plan in time_answers.some_plans(120, 25, events=1, steps=1, horizon=2, longest=2):
            if all(step[1] == "start" for step in plan.steps):
                found = any(is_safe(plan, policy) for policy in policy_answers.all_policies(plan))
                self.assertEqual(found, Game(plan).is_driven())
                driven += found
        self.assertGreater(driven, 20)

    def test_values_that_are_no_policy(self):
        for value in (*WRONG, {(11, ()): ("v",)}, {(True, ()): ("v",)}, list(EARLY.items()), pairs(2001)):
            self.assertIs(is_safe(NEAR, value), False)
            self.assertIs(is_safe(Plan(0), value), False)
            self.refuses(InvalidPolicy, first_failure, NEAR, value)
        self.assertIs(is_safe(Plan(0), {}), True)

    def test_the_limit(self):
        most = Plan(1, steps=(("c", "start", 1, 50, 0), ("d", "start", 1, 50, 1), ("e", "start", 1, 2, None)))
        self.assertIsNone(first_failure(most, {}))
        self.assertIs(is_safe(most.with_bound("start", "d", 49), {}), False)
        self.assertEqual(first_failure(most.with_bound("start", "d", 49), {}), {"c": 1, "d": 50, "e": 1})
        self.assertEqual(first_failure(most.with_bound("c", "start", -2), {}), {"c": 1, "d": 1, "e": 1})
        more = most.with_span("c", 1, 41).with_span("d", 1, 61)
        for plan in (more, FAR, Plan(0, steps=tuple((end, "start", 1, 99, None) for end in "pqrst"))):
            for call in (first_failure, is_safe):
                self.keeps(TooMany, "limit", 5000, call, plan, {})
                self.keeps(TooMany, "limit", 5000, call, plan.with_bound("start", plan.ends[0], -9), {})
            self.refuses(InvalidPolicy, first_failure, plan, None)
            self.refuses(InvalidPolicy, first_failure, plan, {(100, ()): ()})
            for value in WRONG:
                self.assertIs(is_safe(plan, value), False)

    def test_errors(self):
        for value in ODD:
            if not isinstance(value, Plan):
                for call in (first_failure, is_safe, reached_pairs, trimmed):
                    self.refuses(InvalidPlan, call, value, EARLY)
                    self.refuses(InvalidPlan, call, value, None)

    def test_plans_at_the_limits(self):
        plan = Plan(99, events=TEN_EVENTS, steps=FIVE_STEPS, bounds=(("p", "a", 0), ("a", "p", 1), ("start", "j", 99)))
        policy = {(99, ()): TEN_EVENTS[1:]}
        for durations in all_durations(plan):
            heard = tuple((end, durations[end]) for end in "pqrst")
            policy[(99, heard)] = TEN_EVENTS[1:]
            policy[(1, tuple(pair for pair in heard if pair[1] == 1))] = ("a",) if durations["p"] == 1 else ()
            policy[(2, heard)] = ("a",)
        self.assertIs(is_safe(plan, policy), True)
        done, run = played(plan, policy, dict.fromkeys("pqrst", 2))
        self.assertEqual(done, {"a": 2, **dict.fromkeys(TEN_EVENTS[1:], 99)})
        self.assertEqual((run.tick, run.left, run.pending), (100, (), ()))
        self.assertIs(is_safe(plan, {**policy, (2, (("p", 2),)): ("a",), (1, (("p", 1),)): ()}), False)


class Reached(Case):
    def test_examples(self):
        expected = []
        for tick in range(11):
            if tick < 5:
                expected.append((tick, ()))
            expected += [(tick, (("c", at),)) for at in range(1, 6) if at <= tick]
        self.assertEqual(reached_pairs(NEAR, EARLY), tuple(expected))
        self.assertEqual(reached_pairs(NEAR, {}), tuple(expected))

    def test_trimmed(self):
        self.assertEqual(trimmed(NEAR, EARLY), EARLY)
        self.assertEqual(list(trimmed(NEAR, dict(reversed(EARLY.items())))), sorted(EARLY))
        extra = {
            (0, ()): (), (4, ()): ("v",), (9, (("c", 2),)): ("v",), (0, (("c", 1),)): ("v",), (8, (("c", 9),)): ("v",),
        }
        self.assertEqual(trimmed(NEAR, {**extra, **EARLY}), EARLY)
        self.assertEqual(trimmed(NEAR, {}), {})
        self.assertEqual(trimmed(TWO, {(1, ()): ("v",), (2, ()): ("v", "w")}), {(1, ()): ("v",), (2, ()): ("w",)})

    def test_reached_pairs_depend_on_what_is_done(self):
        self.assertNotIn((3, (("d", 3),)), reached_pairs(TWO, {}))
        self.assertIn((3, (("d", 3),)), reached_pairs(TWO, {(2, ()): ("v",)}))
        self.assertNotIn((3, (("d", 3),)), reached_pairs(TWO, {(1, ()): (), (3, ()): ("v",)}))

    def test_plans_without_steps_or_events(self):
        self.assertEqual(reached_pairs(Plan(0), {}), ((0, ()),))
        self.assertEqual(reached_pairs(Plan(2, events=("v",)), {}), ((0, ()), (1, ()), (2, ())))
        self.assertEqual(trimmed(Plan(2, events=("v",)), {(2, ()): ("v",), (0, ()): ()}), {(2, ()): ("v",)})

    def test_against_a_plain_answer(self):
        for plan, policy in policy_answers.some_policies(250, 35, steps=3):
            expected = policy_answers.reached(plan, policy)
            self.assertEqual(reached_pairs(plan, policy), tuple(expected))
            short = trimmed(plan, policy)
            self.assertEqual(list(short.items()), [(pair, done) for pair, done in expected.items() if done])
            self.assertIs(is_policy(plan, short), True)
            self.assertEqual(first_failure(plan, short), first_failure(plan, policy))
            self.assertEqual(trimmed(plan, short), short)

    def test_too_many_durations(self):
        most = Plan(0, steps=(("c", "start", 1, 50, 0), ("d", "start", 1, 50, 0), ("e", "start", 1, 2, None)))
        more = most.with_span("c", 1, 41).with_span("d", 1, 61)
        self.assertEqual(reached_pairs(most, {}), ((0, ()),))
        self.assertEqual(trimmed(most, {(0, ()): ()}), {})
        for call in (reached_pairs, trimmed):
            for plan in (more, FAR):
                self.keeps(TooMany, "limit", 5000, call, plan, {})
                self.refuses(InvalidPolicy, call, plan, {(0, ()): None})

    def test_too_many_pairs(self):
        plan = Plan(30, events=("v",), steps=(("c", "start", 1, 11, 3), ("d", "start", 1, 30, 0)))
        self.assertEqual(len(reached_pairs(plan, {})), 5000)
        self.assertEqual(trimmed(plan, {(4, ()): ("v",)}), {(4, ()): ("v",)})
        plan = Plan(42, events=("v",), steps=(("c", "start", 1, 7, 0), ("d", "start", 1, 26, 3)))
        for call in (reached_pairs, trimmed):
            self.keeps(TooMany, "limit", 5000, call, plan, {})
            self.keeps(TooMany, "limit", 5000, call, WIDE, {(0, ()): ("v",)})
            self.refuses(InvalidPolicy, call, WIDE, {(0, ()): ("w",)})
        self.assertEqual(reached_pairs(plan.with_horizon(41), {})[-1], (41, (("c", 7), ("d", 26))))

    def test_errors(self):
        for value in (*WRONG, {(11, ()): ("v",)}, pairs(2001)):
            self.refuses(InvalidPolicy, reached_pairs, NEAR, value)
            self.refuses(InvalidPolicy, trimmed, NEAR, value)

    def test_nothing_changes(self):
        policy = {(9, ()): ("v",), **EARLY}
        before = dict(policy)
        short = trimmed(NEAR, policy)
        short[(0, ())] = ("v",)
        del short[(3, ())]
        self.assertEqual(trimmed(NEAR, policy), EARLY)
        reached_pairs(NEAR, policy)
        first_failure(NEAR, {})["c"] = 9
        self.assertEqual(first_failure(NEAR, {}), {"c": 1})
        self.assertEqual(list(policy.items()), list(before.items()))


if __name__ == "__main__":
    unittest.main()
