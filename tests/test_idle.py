"""Idle bounds, which need not be asked for, and cores, which no driver keeps ([16.1], [16.2], stage 16)."""

import itertools
import random
import unittest

from heardlate.drive.drivers import EagerDriver, drive
from heardlate.errors import Driven, InvalidOperation, InvalidPlan, Refuted, UnknownName
from heardlate.facts.decided import implied, is_driven, paper_of, same_tables
from heardlate.facts.refutations import is_refutation
from heardlate.facts.tables import derived_table, is_table_paper
from heardlate.margins import idle as module
from heardlate.margins.idle import core, idle_bounds, is_core, is_idle, thinned, tightened
from heardlate.plans.durations import all_durations
from heardlate.plans.plans import Plan
from heardlate.plans.times import broken_bounds, times_of
from tests import margin_answers, time_answers
from tests.samples import EXACT, FIVE_STEPS, NEAR, ODD, OTHER, RARE, TEN_EVENTS, Case

# Of the bounds between u, v and w each one that goes over two others is idle.
ROW = Plan(20, events=("u", "v", "w"), bounds=(("u", "v", 2), ("v", "w", 3), ("u", "w", 5), ("start", "w", 20)))
# Either of these two bounds is idle by itself, but not both are together.
PAIR = Plan(
    20, events=("v", "w"), steps=(("c", "start", 1, 5, 0),),
    bounds=(("v", "w", 0), ("w", "v", 0), ("start", "v", 7), ("start", "w", 7)),
)


def with_more_bounds(plan, chance):
    """A driven plan with some more bounds that follow from its table, or nearly."""
    if not is_driven(plan) or len(plan) < 3:
        return plan
    for _ in range(4):
        first, second = chance.sample(plan.points, 2)
        other = plan.with_bound(first, second, implied(plan, first, second) + chance.choice((-1, 0, 0, 1)))
        if is_driven(other):
            plan = other
    return plan


def driven_plans(many, seed):
    chance = random.Random(seed)
    for plan in time_answers.some_plans(many, seed + 1, steps=3, horizon=8):
        plan = with_more_bounds(plan, chance)
        if is_driven(plan):
            yield plan


def refuted_plans(many, seed):
    chance = random.Random(seed)
    for plan in time_answers.some_plans(many, seed + 1, steps=3):
        for first, second in chance.sample(list(itertools.permutations(plan.points, 2)), min(3, len(plan) - 1)):
            if plan.bound(first, second) is None:
                plan = plan.with_bound(first, second, chance.randint(-2, 4))
        if not is_driven(plan):
            yield plan


class Idle(Case):
    def test_modules(self):
        for name in ("is_idle", "idle_bounds", "thinned", "tightened", "core", "is_core"):
            self.assertEqual(getattr(module, name).__module__, "heardlate.margins.idle")

    def test_a_row(self):
        self.assertEqual(idle_bounds(ROW), (("start", "w", 20), ("u", "w", 5)))
        self.assertIs(is_idle(ROW, "u", "w"), True)
        self.assertIs(is_idle(ROW, "u", "v"), False)
        self.assertEqual(thinned(ROW).bounds, (("u", "v", 2), ("v", "w", 3)))
        looser = ROW.with_bound("u", "w", 6)
        self.assertIs(is_idle(looser, "u", "w"), True)
        self.assertEqual(tightened(looser), ROW)
        self.assertIs(is_idle(ROW.with_bound("u", "w", 4), "u", "w"), False)

    def test_near(self):
        self.assertEqual((idle_bounds(NEAR), thinned(NEAR)), ((), NEAR))
        self.assertEqual(tightened(NEAR), NEAR)
        loose = NEAR.with_bound("start", "v", 6).with_bound("v", "start", -1)
        self.assertEqual(idle_bounds(loose), (("start", "v", 6), ("v", "start", -1)))
        self.assertEqual(thinned(loose), NEAR)

    def test_idle_each_by_itself_but_not_together(self):
        self.assertEqual(idle_bounds(PAIR), (("start", "v", 7), ("start", "w", 7)))
        self.assertEqual(thinned(PAIR), PAIR.without_bound("start", "v"))
        self.assertIs(is_idle(thinned(PAIR), "start", "w"), False)

    def test_plans_without_bounds(self):
        for plan in (Plan(0), Plan(9, events=("v",), steps=(("c", "v", 1, 4, 2),))):
            self.assertEqual((idle_bounds(plan), thinned(plan), tightened(plan)), ((), plan, plan))

    def test_against_the_plan_with_a_bound_left_out(self):
        found = {True: 0, False: 0}
        for plan in (*driven_plans(120, 521), NEAR, ROW, PAIR, *RARE[:-3]):
            table = margin_answers.table(plan)
            idle = []
            for bound in plan.bounds:
                other = margin_answers.alone(plan, [one for one in plan.bounds if one != bound])
                without = margin_answers.table(other)
                self.assertIs(is_idle(plan, bound[0], bound[1]), without == table)
                # So exactly if the table without it has at most its number.
                self.assertIs(without == table, without[0][bound[:2]] <= bound[2])
                found[without == table] += 1
                if without == table:
                    idle.append(bound)
            self.assertEqual(idle_bounds(plan), tuple(idle))
        self.assertGreater(min(found.values()), 80)

    def test_thinned_against_one_after_another(self):
        less = 0
        for plan in (*driven_plans(140, 523), ROW, PAIR):
            left = list(plan.bounds)
            table = margin_answers.table(plan)
            for bound in plan.bounds:
                others = [one for one in left if one != bound]
                if margin_answers.table(margin_answers.alone(plan, others)) == table:
                    left = others
            thin = thinned(plan)
            self.assertEqual(thin, margin_answers.alone(plan, left))
            self.assertEqual(idle_bounds(thin), ())
            self.assertIs(same_tables(plan, thin), True)
            less += len(idle_bounds(plan)) > len(plan.bounds) - len(left)
        self.assertGreater(less, 5)

    def test_tightened_against_the_table(self):
        tighter = 0
        for plan in (*driven_plans(120, 525), ROW, PAIR, NEAR):
            plain, _ = margin_answers.table(plan)
            tight = tightened(plan)
            expected = margin_answers.alone(plan, [bound[:2] + (plain[bound[:2]],) for bound in plan.bounds])
            self.assertEqual(tight, expected)
            self.assertEqual(derived_table(tight), derived_table(plan))
            self.assertEqual(tightened(tight), tight)
            tighter += tight != plan
        self.assertGreater(tighter, 20)

    def test_safe_drivers_of_a_thinned_plan_keep_all_bounds(self):
        for plan in driven_plans(40, 527):
            driver = EagerDriver(thinned(plan))
            for durations in all_durations(plan):
                self.assertEqual(broken_bounds(plan, times_of(plan, drive(driver, durations)[0], durations)), ())

    def test_the_plan_stays(self):
        before = margin_answers.made(ROW)
        for call in (idle_bounds, thinned, tightened):
            call(ROW)
        self.assertEqual(ROW, before)

    def test_plans_at_the_limits(self):
        names = TEN_EVENTS
        row = tuple((one, other, 3) for one, other in zip(names, names[1:]))
        far = tuple((one, other, 6) for one, other in zip(names, names[2:]))
        plan = Plan(99, events=names, steps=FIVE_STEPS, bounds=row + far)
        self.assertEqual(idle_bounds(plan), far)
        self.assertEqual(thinned(plan).bounds, row)
        self.assertEqual(tightened(plan), plan)
        full = tuple((u, v, implied(plan, u, v)) for u, v in itertools.permutations(plan.points, 2))
        full = Plan(99, events=names, steps=FIVE_STEPS, bounds=full)
        self.assertIs(same_tables(plan, thinned(full)), True)
        self.assertEqual(tightened(full), full)


class Errors(Case):
    def test_the_plan_is_checked_first(self):
        for value in ODD:
            if not isinstance(value, Plan):
                for pair in (("v", "c"), ("x", "y"), (None, None)):
                    self.refuses(InvalidPlan, is_idle, value, *pair)
                for call in (idle_bounds, thinned, tightened, core):
                    self.refuses(InvalidPlan, call, value)
                self.refuses(InvalidPlan, is_core, value, core(EXACT))
                self.refuses(InvalidPlan, is_core, value, None)

    def test_points_come_next(self):
        for plan in (NEAR, EXACT):
            for value in ODD + ("x", ("v",), ["v"]):
                if value != "start":
                    self.keeps(UnknownName, "name", value, is_idle, plan, value, "c")
                    self.keeps(UnknownName, "name", value, is_idle, plan, "v", value)
                    self.keeps(UnknownName, "name", value, is_idle, plan, value, "x")
            self.keeps(UnknownName, "name", "x", is_idle, plan, "x", "y")

    def test_bounds_that_are_not_there(self):
        for plan in (NEAR, EXACT):
            for pair in (("start", "v"), ("v", "start"), ("v", "v"), ("start", "start"), ("c", "start"), ("start", "c")):
                self.refuses(InvalidOperation, is_idle, plan, *pair)

    def test_refuted_plans(self):
        for plan in (EXACT, NEAR.deaf()):
            paper = self.refuses(Refuted, is_idle, plan, "v", "c").paper
            self.assertIs(is_refutation(plan, paper), True)
            for call in (idle_bounds, thinned, tightened):
                paper = self.refuses(Refuted, call, plan).paper
                self.assertIs(is_refutation(plan, paper), True)

    def test_driven_plans(self):
        for plan in (NEAR, ROW, Plan(0)):
            paper = self.refuses(Driven, core, plan).paper
            self.assertIs(is_table_paper(plan, paper), True)
            for value in ODD + ((), plan.bounds):
                self.assertIs(is_core(plan, value), False)

    def test_by_keyword(self):
        self.assertIs(is_idle(second="w", plan=ROW, first="u"), True)
        self.assertEqual(idle_bounds(plan=ROW), idle_bounds(ROW))
        self.assertEqual((thinned(plan=ROW), tightened(plan=ROW)), (thinned(ROW), tightened(ROW)))
        self.assertIs(is_core(value=core(plan=EXACT), plan=EXACT), True)


class Cores(Case):
    def test_exact(self):
        self.assertEqual(core(EXACT), (("c", "v", -1), ("v", "c", 1)))
        self.assertEqual(core(EXACT.with_bound("start", "v", 8)), (("c", "v", -1), ("v", "c", 1)))
        self.assertEqual(core(EXACT.with_bound("v", "start", -11)), (("v", "start", -11),))

    def test_against_all_sets_of_bounds(self):
        many = 0
        for plan in itertools.chain(refuted_plans(150, 531), (EXACT, NEAR.deaf(), *RARE[-3:])):
            if len(plan.bounds) > 7:
                continue
            driven = {}
            for size in range(len(plan.bounds) + 1):
                for bounds in itertools.combinations(plan.bounds, size):
                    driven[bounds] = is_driven(margin_answers.alone(plan, bounds))
            cores = []
            for bounds in driven:
                less = [tuple(one for one in bounds if one != bound) for bound in bounds]
                if not driven[bounds] and all(driven[others] for others in less):
                    cores.append(bounds)
            self.assertIn(core(plan), cores)
            for bounds in driven:
                self.assertIs(is_core(plan, bounds), bounds in cores)
            many += len(cores) > 1
        self.assertGreater(many, 10)

    def test_against_the_game(self):
        for plan in time_answers.some_plans(80, 533, steps=2, horizon=4, longest=3):
            if margin_answers.is_driven(plan):
                self.refuses(Driven, core, plan)
                continue
            found = core(plan)
            self.assertIs(is_core(plan, found), True)
            self.assertIs(margin_answers.is_driven(margin_answers.alone(plan, found)), False)
            for bound in found:
                others = [one for one in found if one != bound]
                self.assertIs(margin_answers.is_driven(margin_answers.alone(plan, others)), True)

    def test_what_is_near_a_core(self):
        plan = EXACT.with_bound("start", "v", 8).with_bound("v", "start", -11)
        one, two = (("c", "v", -1), ("v", "c", 1)), (("v", "start", -11),)
        self.assertEqual([is_core(plan, one), is_core(plan, two)], [True, True])
        for value in (
            one + two, one[:1], one[1:], (), one[::-1], one + one[1:], one[:1] + one, list(one), plan.bounds,
            (("c", "v", -1), ("v", "c", 2)), (("c", "v", -1), ("v", "c", 1), ("x", "c", 1)), (["c", "v", -1], ("v", "c", 1)),
            (("c", "v", -1), ("v", "c", True)), (("c", "v", -1), ("start", "v", 8), ("v", "c", 1)), one[0],
            (("c", "v", -1), ("v", "c")), (("v", "start", -12),), (("v", "start"),), two + two, dict.fromkeys(one),
        ):
            self.assertIs(is_core(plan, value), False)
        self.assertIs(is_core(EXACT, two), False)
        self.assertIs(is_core(EXACT, core(EXACT)), True)
        self.assertIs(is_core(OTHER, core(EXACT)), False)

    def test_other_values(self):
        for plan in (EXACT, NEAR.deaf(), RARE[-1]):
            for value in ODD:
                self.assertIs(is_core(plan, value), False)
                self.assertIs(is_core(plan, (value,)), False)
                self.assertIs(is_core(plan, core(plan) + (value,)), False)

    def test_names_whose_order_is_not_that_of_the_plan(self):
        # The points of a plan are not ascending, its bounds are.
        plan = Plan(5, events=("z",), steps=(("a", "start", 3, 4, None),), bounds=(("z", "a", 0), ("a", "z", 0)))
        self.assertEqual(core(plan), (("a", "z", 0), ("z", "a", 0)))

    def test_plans_at_the_limits(self):
        pairs = [pair for pair in itertools.permutations(("start",) + TEN_EVENTS + tuple("pqrst"), 2)]
        plan = Plan(99, events=TEN_EVENTS, steps=FIVE_STEPS, bounds=tuple(pair + (-1,) for pair in pairs))
        found = core(plan)
        self.assertIs(is_core(plan, found), True)
        plan = Plan(99, events=TEN_EVENTS, steps=FIVE_STEPS, bounds=tuple(pair + (90,) for pair in pairs))
        plan = plan.deaf().with_bound("j", "t", 0).with_bound("t", "j", 0)
        self.assertEqual(core(plan), (("j", "t", 0), ("t", "j", 0)))


class Same(Case):
    def test_parts_in_other_orders_and_other_names(self):
        chance = random.Random(535)
        for plan in [*driven_plans(20, 536), *refuted_plans(20, 538)]:
            names = dict(zip(plan.points[1:], sorted(chance.sample("bdefghijklnoprstuy", len(plan) - 1))))
            turned = Plan(
                plan.horizon, events=plan.events[::-1], steps=plan.steps[::-1],
                bounds=tuple(chance.sample(plan.bounds, len(plan.bounds))),
            )
            named = plan.renamed_by(names)
            names["start"] = "start"
            if not is_driven(plan):
                self.assertEqual(core(turned), core(plan))
                found = tuple(sorted((names[u], names[v], w) for u, v, w in core(plan)))
                self.assertIs(is_core(named, found), True)
                continue
            self.assertEqual((idle_bounds(turned), thinned(turned)), (idle_bounds(plan), thinned(plan)))
            expected = sorted((names[u], names[v], w) for u, v, w in idle_bounds(plan))
            self.assertEqual(list(idle_bounds(named)), expected)
            self.assertEqual(tightened(named), tightened(plan).renamed_by({
                point: names[point] for point in plan.points[1:]
            }))


if __name__ == "__main__":
    unittest.main()
