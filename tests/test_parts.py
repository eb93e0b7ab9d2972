"""Plans inside plans: what fits, the nested plan, and the driver that plays it ([17.1], [17.2], stage 17)."""

import itertools
import random
import unittest

from heardlate.drive.drivers import Driver, EagerDriver, PolicyDriver, TableDriver, drive, policy_of
from heardlate.drive.opponents import Opponent, duel
from heardlate.errors import InvalidOperation, InvalidPlan, TooMany, UnknownName
from heardlate.facts.decided import derived_paper, is_driven, paper_of
from heardlate.facts.refutations import is_refutation
from heardlate.facts.tables import is_table_paper
from heardlate.parts import parts as module
from heardlate.parts.parts import NestedDriver, fit_paper, is_fitting, nested, spanned
from heardlate.plans.durations import all_durations
from heardlate.plans.plans import Plan
from heardlate.plans.times import broken_bounds, times_of
from heardlate.runs.policies import is_safe
from heardlate.runs.runs import Run
from tests import drive_answers, margin_answers, time_answers
from tests.samples import EXACT, FIVE_STEPS, NEAR, ODD, TEN_EVENTS, Case

# The step c begins at the event a and is heard one tick late; v follows it.
OUTER = Plan(
    12,
    events=("a", "v"),
    steps=(("c", "a", 2, 6, 1), ("d", "start", 1, 3, 0)),
    bounds=(("a", "d", 0), ("v", "c", 0), ("c", "v", 4)),
)
# The work of two steps; z is done when both have ended.
INNER = Plan(
    6,
    events=("m", "z"),
    steps=(("p", "start", 1, 2, 0), ("q", "m", 1, 2, 0)),
    bounds=(("m", "p", 0), ("z", "q", 0), ("q", "z", 1)),
)
# The begin of a step of one tick, whose end is heard at once, and its end as the last point.
ENDED = Plan(4, events=("m",), steps=(("q", "m", 1, 2, 0),), bounds=(("m", "start", -1),))


def table_driver(plan):
    return TableDriver(plan, derived_paper(plan))


def nested_driver(outer, end, inner, last, kind=EagerDriver, other=EagerDriver):
    """A driver of a nested plan, with drivers of these classes."""
    return NestedDriver(kind(outer), end, other(spanned(outer, end, inner, last)), last)


def some_pairs(many, seed, horizon=4):
    """Outer plans with an end, inner plans with a last point, all with different names."""
    chance = random.Random(seed)
    outers = time_answers.some_plans(many, seed + 1, events=2, steps=2, horizon=horizon, longest=3)
    inners = time_answers.some_plans(many, seed + 2, events=2, steps=1, horizon=3, longest=3)
    for outer, inner in zip(outers, inners):
        inner = inner.renamed_by({point: point + "i" for point in inner.points[1:]})
        if outer.ends and len(inner) > 1:
            end, last = chance.choice(outer.ends), chance.choice(inner.points[1:])
            least, most = outer.step(end)[2:4]
            outer = outer.with_span(end, chance.randint(1, least), most + chance.randint(0, 3))
            if last in inner.ends:
                delays = [delay for delay in (0, 1, 2, None) if not is_later(inner.step(last)[4], delay)]
                outer = outer.with_delay(end, chance.choice(delays))
            yield outer, end, inner, last


def is_later(one, other):
    """Whether one delay is greater than the other; None is the greatest."""
    return other is not None and (one is None or one > other)


class Spans(Case):
    def test_modules(self):
        for name in ("spanned", "fit_paper", "is_fitting", "nested", "NestedDriver"):
            self.assertEqual(getattr(module, name).__module__, "heardlate.parts.parts")

    def test_spanned(self):
        plan = spanned(OUTER, "c", INNER, "z")
        self.assertEqual(plan, INNER.with_bound("start", "z", 6).with_bound("z", "start", -2))
        self.assertEqual(spanned(OUTER, "d", INNER, "z"), INNER.with_bound("start", "z", 3).with_bound("z", "start", -1))
        self.assertEqual(spanned(OUTER, "c", plan, "z"), plan)
        self.assertEqual(spanned(OUTER, "c", INNER, "m"), INNER.with_bound("start", "m", 6).with_bound("m", "start", -2))

    def test_of_several_bounds_the_least_counts(self):
        for most, least, expected in (
            (6, -2, (6, -2)), (5, -2, (5, -2)), (7, -2, (6, -2)), (6, -3, (6, -3)), (6, -1, (6, -2)), (4, -4, (4, -4)),
        ):
            inner = INNER.with_bound("start", "z", most).with_bound("z", "start", least)
            plan = spanned(OUTER, "c", inner, "z")
            self.assertEqual((plan.bound("start", "z"), plan.bound("z", "start")), expected)
            self.assertEqual(plan.bounds, spanned(OUTER, "c", plan, "z").bounds)

    def test_fitting(self):
        self.assertIs(is_fitting(OUTER, "c", INNER, "z"), True)
        self.assertIs(is_table_paper(spanned(OUTER, "c", INNER, "z"), fit_paper(OUTER, "c", INNER, "z")), True)
        tight = OUTER.with_span("c", 2, 3)
        self.assertIs(is_fitting(tight, "c", INNER, "z"), False)
        self.assertIs(is_refutation(spanned(tight, "c", INNER, "z"), fit_paper(tight, "c", INNER, "z")), True)
        self.assertIs(is_fitting(OUTER.with_span("c", 5, 5), "c", INNER, "z"), True)
        self.assertIs(is_fitting(OUTER.with_span("c", 7, 7), "c", INNER, "z"), False)
        self.assertIs(is_fitting(OUTER.with_span("c", 2, 3), "c", ENDED, "q"), True)
        self.assertIs(is_fitting(OUTER.with_span("c", 3, 3), "c", ENDED, "q"), False)

    def test_fitting_does_not_look_at_the_outer_plan(self):
        refuted = OUTER.with_bound("a", "start", -13)
        self.assertIs(is_driven(refuted), False)
        self.assertIs(is_fitting(refuted, "c", INNER, "z"), True)
        self.assertIs(is_fitting(OUTER, "c", INNER.with_bound("m", "start", -7), "z"), False)

    def test_against_the_game(self):
        fitting = 0
        for outer, end, inner, last in some_pairs(150, 541):
            least, most = outer.step(end)[2:4]
            bounds = {bound[:2]: bound[2] for bound in inner.bounds}
            bounds[("start", last)] = min(most, bounds.get(("start", last), most))
            bounds[(last, "start")] = min(-least, bounds.get((last, "start"), -least))
            plan = margin_answers.made(inner, bounds=tuple(pair + (most,) for pair, most in bounds.items()))
            self.assertEqual(spanned(outer, end, inner, last), plan)
            self.assertIs(is_fitting(outer, end, inner, last), margin_answers.is_driven(plan))
            self.assertEqual(fit_paper(outer, end, inner, last), paper_of(plan))
            fitting += is_driven(plan)
        self.assertGreater(fitting, 20)


class Nested(Case):
    def test_a_last_event(self):
        plan = nested(OUTER, "c", INNER, "z")
        self.assertEqual(plan.horizon, 18)
        self.assertEqual(plan.events, ("a", "c", "m", "v"))
        self.assertEqual(plan.steps, (("d", "start", 1, 3, 0), ("p", "a", 1, 2, 0), ("q", "m", 1, 2, 0)))
        self.assertEqual(plan.bounds, tuple(sorted((
            ("a", "d", 0), ("v", "c", 0), ("c", "v", 4), ("m", "p", 0), ("c", "q", 0), ("q", "c", 1),
            ("a", "c", 6), ("c", "a", -2), ("start", "a", 12), ("start", "v", 12), ("m", "a", 0), ("a", "m", 6),
        ))))

    def test_a_last_end(self):
        plan = nested(OUTER, "c", ENDED, "q")
        self.assertEqual((plan.horizon, plan.events), (16, ("a", "m", "v")))
        self.assertEqual(plan.steps, (("c", "m", 1, 2, 0), ("d", "start", 1, 3, 0)))
        self.assertEqual(plan.bounds, tuple(sorted((
            ("a", "d", 0), ("v", "c", 0), ("c", "v", 4), ("a", "c", 6), ("c", "a", -2), ("start", "a", 12),
            ("start", "v", 12), ("m", "a", -1), ("a", "m", 4),
        ))))

    def test_a_step_from_the_start(self):
        plan = nested(NEAR, "c", INNER, "z")
        self.assertEqual((plan.horizon, plan.events), (16, ("c", "m", "v")))
        self.assertEqual(plan.steps, (("p", "start", 1, 2, 0), ("q", "m", 1, 2, 0)))
        self.assertEqual(plan.bounds, tuple(sorted((
            ("v", "c", 2), ("c", "v", 1), ("m", "p", 0), ("c", "q", 0), ("q", "c", 1), ("start", "c", 5),
            ("c", "start", -1), ("start", "v", 10), ("m", "start", 0), ("start", "m", 6),
        ))))

    def test_of_several_bounds_the_least_counts(self):
        outer = OUTER.with_bound("a", "c", 5).with_bound("start", "a", 3).with_bound("start", "v", 13)
        inner = INNER.with_bound("start", "z", 4).with_bound("start", "m", 9).with_bound("m", "start", -1)
        plan = nested(outer, "c", inner, "z")
        self.assertEqual(plan.bound("a", "c"), 4)
        self.assertEqual(nested(outer, "c", inner.without_bound("start", "z"), "z").bound("a", "c"), 5)
        self.assertEqual(nested(outer.without_bound("a", "c"), "c", INNER, "z").bound("a", "c"), 6)
        self.assertEqual([plan.bound("start", "a"), plan.bound("start", "v")], [3, 12])
        self.assertEqual([plan.bound("a", "m"), plan.bound("m", "a")], [6, -1])
        short = INNER.with_horizon(4)
        self.assertEqual(nested(OUTER, "c", short, "z").bound("a", "c"), 4)

    def test_steps_of_the_outer_plan_that_begin_at_the_same_event(self):
        outer = OUTER.with_step("e", "a", 1, 1, 3)
        self.assertEqual(nested(outer, "c", ENDED, "q").step("e"), ("e", "a", 1, 1, 3))

    def test_steps_of_the_inner_plan_that_begin_at_the_last_event(self):
        inner = INNER.with_step("r", "z", 1, 4, None)
        self.assertEqual(nested(OUTER, "c", inner, "z").step("r"), ("r", "c", 1, 4, None))

    def test_against_a_plan_made_by_hand(self):
        for outer, end, inner, last in some_pairs(200, 544):
            self.assertEqual(nested(outer, end, inner, last), margin_answers.nested(outer, end, inner, last))

    def test_arguments_stay(self):
        before = margin_answers.made(OUTER), margin_answers.made(INNER)
        for call in (spanned, fit_paper, is_fitting, nested):
            call(OUTER, "c", INNER, "z")
        self.assertEqual((OUTER, INNER), before)

    def test_a_driven_plan_around_one_that_fits_is_driven(self):
        both, more = 0, 0
        for outer, end, inner, last in some_pairs(500, 547, horizon=5):
            plan = nested(outer, end, inner, last)
            if is_driven(outer) and is_fitting(outer, end, inner, last):
                self.assertIs(is_driven(plan), True)
                both += 1
            elif is_driven(plan):
                more += 1
        self.assertGreater(both, 40)
        self.assertGreater(more, 10)

    def test_it_can_be_driven_though_the_outer_plan_is_not(self):
        # The end of the step is never heard, but the event in its place is done by the driver.
        outer = NEAR.deaf()
        self.assertIs(is_driven(outer), False)
        self.assertIs(is_driven(nested(outer, "c", INNER, "z")), True)
        self.assertIs(margin_answers.is_driven(nested(EXACT, "c", Plan(3, events=("z",)), "z")), True)

    def test_against_the_game(self):
        for outer, end, inner, last in some_pairs(60, 550, horizon=2):
            plan = nested(outer, end, inner.with_horizon(min(inner.horizon, 2)), last)
            if len(plan.events) < 4:
                self.assertIs(is_driven(plan), margin_answers.is_driven(plan))


class Names(Case):
    def test_names_in_common(self):
        for inner in (
            INNER.renamed(m="a"), INNER.renamed(m="v"), INNER.renamed(m="c"), INNER.renamed(m="d"), INNER.renamed(p="a"),
            INNER.renamed(p="c"), INNER.renamed(q="d"),
        ):
            self.refuses(InvalidOperation, nested, OUTER, "c", inner, "z")
            self.assertIs(is_fitting(OUTER, "c", inner, "z"), True)
            self.assertEqual(fit_paper(OUTER, "c", inner, "z")[0], "table")
            self.assertEqual(spanned(OUTER, "c", inner, "z").points, inner.points)

    def test_the_last_point_does_not_count(self):
        plan = nested(OUTER, "c", INNER, "z")
        for name in ("c", "a", "v", "d"):
            self.assertEqual(nested(OUTER, "c", INNER.renamed(z=name), name), plan)
        plan = nested(OUTER, "c", ENDED, "q")
        for name in ("c", "a", "v", "d"):
            self.assertEqual(nested(OUTER, "c", ENDED.renamed(q=name), name), plan)
        self.refuses(InvalidOperation, nested, OUTER, "c", INNER.renamed(z="a", m="c"), "a")

    def test_a_driver_with_a_last_point_that_is_called_like_an_outer_one(self):
        for inner, last in ((INNER, "z"), (ENDED, "q")):
            for name in ("c", "a", "v", "d"):
                one = nested_driver(OUTER, "c", inner, last)
                other = nested_driver(OUTER, "c", inner.renamed_by({last: name}), name)
                self.assertEqual(one.plan, other.plan)
                self.assertEqual(policy_of(one), policy_of(other))
                self.assertIs(is_safe(one.plan, policy_of(other)), True)


class Delays(Case):
    def test_ends_with_a_greater_delay(self):
        for one, other in itertools.product((0, 1, 2, 98, 99, None), repeat=2):
            inner, outer = ENDED.with_delay("q", one), OUTER.with_delay("c", other)
            if not is_later(one, other):
                self.assertEqual(nested(outer, "c", inner, "q").step("c"), ("c", "m", 1, 2, one))
                self.assertEqual(fit_paper(outer, "c", inner, "q"), paper_of(spanned(outer, "c", inner, "q")))
                self.assertIs(is_fitting(outer, "c", inner, "q"), is_driven(spanned(outer, "c", inner, "q")))
                continue
            for call in (spanned, fit_paper, is_fitting, nested):
                self.refuses(InvalidOperation, call, outer, "c", inner, "q")
                # Neither an event nor another end need be heard so soon.
                call(outer, "c", inner, "m")
        for call in (spanned, fit_paper, is_fitting, nested):
            call(OUTER.with_delay("c", 0), "c", INNER.deaf("p"), "z")

    def test_a_delay_of_another_step_does_not_matter(self):
        self.assertIs(is_fitting(OUTER.with_delay("d", 0), "c", ENDED.with_delay("q", 1), "q"), True)
        self.refuses(InvalidOperation, is_fitting, OUTER.with_delay("d", 9), "c", ENDED.with_delay("q", 2), "q")


class Errors(Case):
    def test_parameters(self):
        late, early = ENDED.with_delay("q", None), OUTER.with_delay("c", 0)
        for call in (spanned, fit_paper, is_fitting, nested):
            for value in ODD:
                if not isinstance(value, Plan):
                    self.refuses(InvalidPlan, call, value, "c", INNER, "z")
                    self.refuses(InvalidPlan, call, value, "x", None, None)
                    self.refuses(InvalidPlan, call, OUTER, "c", value, "z")
                    self.refuses(InvalidPlan, call, OUTER, "c", value, None)
                if value != "start":
                    self.keeps(UnknownName, "name", value, call, OUTER, value, INNER, "z")
                    self.keeps(UnknownName, "name", value, call, OUTER, value, None, None)
                self.keeps(UnknownName, "name", value, call, OUTER, "c", INNER, value)
                self.keeps(UnknownName, "name", value, call, early, "c", late, value)
            for value in ("start", "a", "v", "z"):
                self.keeps(UnknownName, "name", value, call, OUTER, value, INNER, "z")
            for value in ("start", "a", "c", "v"):
                self.keeps(UnknownName, "name", value, call, OUTER, "c", INNER, value)
            self.refuses(InvalidOperation, call, early, "c", late, "q")

    def test_horizons(self):
        outer, inner = OUTER.with_horizon(90), INNER.with_horizon(9)
        self.assertEqual(nested(outer, "c", inner, "z").horizon, 99)
        self.assertEqual(nested(outer.with_horizon(99), "c", ENDED.with_horizon(0), "q").horizon, 99)
        for one, other in ((91, 9), (90, 10), (99, 1), (99, 99)):
            wide, deep = outer.with_horizon(one), inner.with_horizon(other)
            self.keeps(TooMany, "limit", 99, nested, wide, "c", deep, "z")
            self.assertEqual(spanned(wide, "c", deep, "z").horizon, other)
            self.assertIs(is_fitting(wide, "c", deep, "z"), other > 3)
        self.refuses(InvalidOperation, nested, outer.with_horizon(91), "c", inner.renamed(m="v"), "z")
        self.refuses(InvalidOperation, nested, OUTER.with_horizon(99).prompt(), "c", ENDED.deaf(), "q")

    def test_limits(self):
        nine = Plan(9, events=TEN_EVENTS[:9], steps=(("x", "a", 1, 5, 0),))
        self.assertEqual(len(nested(nine, "x", Plan(3, events=("z",)), "z").events), 10)
        self.assertEqual(len(nested(nine.with_event("j"), "x", Plan(3, steps=(("z", "start", 1, 2, 0),)), "z").events), 10)
        self.keeps(TooMany, "limit", 10, nested, nine, "x", Plan(3, events=("y", "z")), "z")
        self.keeps(TooMany, "limit", 10, nested, nine.with_event("j"), "x", Plan(3, events=("z",)), "z")
        five = Plan(9, events=("v",), steps=FIVE_STEPS)
        two = Plan(3, steps=(("y", "start", 1, 2, 0), ("z", "start", 1, 2, 0)))
        self.assertEqual(len(nested(five, "p", Plan(3, steps=(("z", "start", 1, 2, 0),)), "z").steps), 5)
        self.assertEqual(len(nested(five, "p", Plan(3, events=("y",), steps=(("z", "start", 1, 2, 0),)), "y").steps), 5)
        self.keeps(TooMany, "limit", 5, nested, five, "p", two, "z")
        # Events come ahead of steps, the horizon ahead of both.
        many = Plan(9, events=TEN_EVENTS, steps=FIVE_STEPS)
        more = Plan(90, events=("y",), steps=(("z", "start", 1, 2, 0), ("zz", "start", 1, 2, 0)))
        self.keeps(TooMany, "limit", 10, nested, many, "p", more, "z")
        self.keeps(TooMany, "limit", 99, nested, many, "p", more.with_horizon(91), "z")
        self.refuses(InvalidOperation, nested, many, "p", more.with_horizon(91).renamed(y="a"), "z")

    def test_by_keyword(self):
        self.assertEqual(nested(last="z", inner=INNER, end="c", outer=OUTER), nested(OUTER, "c", INNER, "z"))
        self.assertEqual(spanned(inner=INNER, outer=OUTER, last="z", end="c"), spanned(OUTER, "c", INNER, "z"))
        self.assertIs(is_fitting(end="c", last="z", outer=OUTER, inner=INNER), True)
        self.assertEqual(fit_paper(end="c", last="z", outer=OUTER, inner=INNER)[0], "table")


class Drivers(Case):
    def test_methods_stand_in_the_class(self):
        self.assertTrue(issubclass(NestedDriver, Driver))
        for name in ("__init__", "__call__", "plan", "tick", "run", "twin", "__eq__", "__str__"):
            self.assertIn(name, vars(NestedDriver))

    def test_properties(self):
        driver = nested_driver(OUTER, "c", INNER, "z")
        plan = nested(OUTER, "c", spanned(OUTER, "c", INNER, "z"), "z")
        self.assertEqual((driver.plan, driver.tick, driver.run), (plan, 0, Run(plan)))
        driver()
        self.assertEqual((driver.tick, str(driver), driver.run.tick), (1, "driver at tick 1", 1))
        for name in ("plan", "tick", "run"):
            self.assertRaises(AttributeError, setattr, driver, name, 1)
        self.assertRaises(TypeError, iter, driver)

    def test_how_it_plays(self):
        driver = nested_driver(OUTER, "c", INNER, "z")
        self.assertEqual(driver(), ())
        # When d is heard, the outer driver does a, and the inner one begins at its own tick 0.
        self.assertEqual(driver(("d",)), ("a",))
        self.assertEqual(driver(), ())
        self.assertEqual(driver(("p",)), ("m",))
        self.assertEqual(driver(), ())
        self.assertEqual(driver(("q",)), ("c",))
        # The news of the step comes one tick behind its end, that is when v is done.
        self.assertEqual(driver(), ("v",))
        self.assertEqual(driver.run.times, {"a": 1, "c": 5, "d": 1, "m": 3, "p": 3, "q": 5, "start": 0, "v": 6})
        self.assertEqual([driver() for _ in range(30)], [()] * 30)

    def test_a_step_without_delay(self):
        driver = nested_driver(OUTER.with_delay("c", 0), "c", INNER, "z")
        told = [driver(ends) for ends in ((), ("d",), ("p",), (), ("q",))]
        self.assertEqual(told, [(), ("a",), ("m",), (), ("c", "v")])

    def test_ascending_events(self):
        inner = Plan(3, events=("k", "z"), bounds=(("z", "start", -1),))
        for names in (("a", "x"), ("a", "b"), ("x", "y")):
            outer = Plan(9, events=names, steps=(("c", "start", 1, 5, 0),), bounds=(("start", names[1], 0),))
            driver = nested_driver(outer, "c", inner, "z")
            self.assertEqual(driver(), tuple(sorted(("k",) + names)))
            self.assertEqual(driver(), ("c",))
        # The same if the inner driver begins in the tick in which the outer one does the begin.
        outer = Plan(9, events=("a", "x"), steps=(("c", "x", 1, 5, 0),))
        self.assertEqual(nested_driver(outer, "c", inner, "z")(), ("a", "k", "x"))

    def test_a_step_that_is_never_heard(self):
        outer = OUTER.with_delay("c", None).with_bound("c", "v", 9)
        for inner, last in ((INNER, "z"), (ENDED.deaf(), "q"), (ENDED, "q")):
            for kind in (EagerDriver, table_driver):
                self.check(nested_driver(outer, "c", inner, last, kind, kind))

    def test_an_end_that_is_heard_before_the_news_of_the_step(self):
        outer = OUTER.with_delay("c", 3)
        self.assertIs(is_driven(outer), True)
        for delay in (0, 1, 2, 3):
            driver = nested_driver(outer, "c", ENDED.with_delay("q", delay), "q")
            told = [driver(), driver(("d",)), driver()]
            self.assertEqual(told, [(), ("a",), ("m",)])
            # The end comes at tick 4; the outer driver is told of it at tick 7.
            for tick in range(3, 10):
                told = driver(("c",) if tick == 4 + delay else ())
                self.assertEqual(told, ("v",) if tick == 7 else ())
            self.check(driver.__class__(EagerDriver(outer), "c", EagerDriver(
                spanned(outer, "c", ENDED.with_delay("q", delay), "q"),
            ), "q"))

    def test_a_step_that_begins_at_the_start(self):
        for kind, other in itertools.product((EagerDriver, table_driver), repeat=2):
            self.check(nested_driver(NEAR, "c", INNER, "z", kind, other))
        driver = nested_driver(NEAR, "c", Plan(3, events=("y", "z"), bounds=(("y", "z", 1), ("z", "y", -1))), "z")
        # The inner driver moves in tick 0 already.
        self.assertEqual(driver(), ("y",))
        self.assertEqual(driver(), ("c", "v"))

    def test_an_outer_driver_that_begins_the_step_late(self):
        outer = OUTER.with_horizon(30)
        late = {(9, (("d", c),)): ("a",) for c in (1, 2, 3)}
        for c, d in itertools.product(range(2, 7), range(1, 4)):
            late[(9 + c + 1, (("c", 9 + c), ("d", d)))] = ("v",)
        self.assertIs(is_safe(outer, late), True)
        for inner, last in ((INNER, "z"), (ENDED, "q")):
            for kind in (EagerDriver, table_driver):
                driver = NestedDriver(PolicyDriver(outer, late), "c", kind(spanned(outer, "c", inner, last)), last)
                self.check(driver)
                self.assertEqual({drive(driver, durations)[0]["a"] for durations in all_durations(driver.plan)}, {9})

    def test_table_drivers_begin_as_late_as_they_can(self):
        driver = nested_driver(OUTER, "c", ENDED, "q", table_driver, table_driver)
        self.check(driver)
        self.assertEqual({drive(driver, durations)[0]["a"] for durations in all_durations(driver.plan)}, {6})
        self.assertGreater(driver.plan.horizon, OUTER.horizon)

    def check(self, driver):
        """Checks that a driver is safe against all durations."""
        for durations in all_durations(driver.plan):
            done, run = drive(driver, durations)
            self.assertEqual(run.left, ())
            self.assertEqual(broken_bounds(driver.plan, times_of(driver.plan, done, durations)), ())
        self.assertEqual(driver.tick, 0)

    def test_against_all_durations(self):
        played = {True: 0, False: 0}
        for outer, end, inner, last in some_pairs(900, 553, horizon=6):
            if not is_driven(outer) or not is_fitting(outer, end, inner, last):
                continue
            for kind in (EagerDriver, table_driver):
                driver = nested_driver(outer, end, inner, last, kind, kind)
                self.assertEqual(driver.plan, nested(outer, end, spanned(outer, end, inner, last), last))
                self.check(driver)
            played[last in inner.ends] += 1
            if sum(played.values()) % 5 == 0:
                self.assertIs(drive_answers.is_safe(driver), True)
        self.assertGreater(min(played.values()), 15)

    def test_against_both_drivers_side_by_side(self):
        for outer, end, inner, last in some_pairs(300, 556, horizon=5):
            if is_driven(outer) and is_fitting(outer, end, inner, last):
                inner = spanned(outer, end, inner, last)
                driver = NestedDriver(EagerDriver(outer), end, table_driver(inner), last)
                for durations in all_durations(driver.plan):
                    done, _ = drive(driver, durations)
                    self.assertEqual(done, side_by_side(outer, end, inner, last, durations))

    def test_policies_and_opponents(self):
        driver = nested_driver(OUTER, "c", ENDED, "q")
        policy = policy_of(driver)
        self.assertIs(is_safe(driver.plan, policy), True)
        # A driver by a policy need not be safe; the opponent of the nested plan finds a bound that is broken.
        outer = OUTER.with_bound("v", "a", -9).with_bound("a", "v", 9).with_bound("v", "c", -4)
        inner = spanned(outer, "c", ENDED, "q")
        player = NestedDriver(PolicyDriver(outer, {(0, ()): ("a",)}), "c", EagerDriver(inner), "q")
        self.assertIs(is_driven(player.plan), False)
        _, verdict = duel(player, Opponent(player.plan))
        self.assertEqual(verdict[0], "undone")

    def test_nested_twice(self):
        deep = Plan(3, events=("r",), steps=(("s", "r", 1, 1, 0),), bounds=(("r", "start", -1),))
        middle = spanned(OUTER, "c", ENDED.with_span("q", 2, 3), "q")
        for kind in (EagerDriver, table_driver):
            inner = NestedDriver(kind(middle), "q", kind(spanned(middle, "q", deep, "s")), "s")
            self.assertEqual(inner.plan, nested(middle, "q", spanned(middle, "q", deep, "s"), "s"))
            self.check(inner)
            driver = NestedDriver(kind(OUTER), "c", inner, "q")
            self.assertEqual(driver.plan, nested(OUTER, "c", inner.plan, "q"))
            self.check(driver)
            twin = driver.twin()
            self.assertEqual(twin, driver)
            self.assertEqual([twin(), twin(("d",))], [driver(), driver(("d",))])
            self.assertEqual(twin, driver)
        # The other way round: a nested driver is the outer one.
        outer = NestedDriver(EagerDriver(OUTER), "c", EagerDriver(spanned(OUTER, "c", ENDED, "q")), "q")
        plain = Plan(2, events=("z",))
        driver = NestedDriver(outer, "d", EagerDriver(spanned(outer.plan, "d", plain, "z")), "z")
        self.assertEqual(driver.plan.events, ("a", "d", "m", "v"))
        self.check(driver)

    def test_plans_at_the_limits(self):
        outer = Plan(60, events=TEN_EVENTS[:8], steps=(("x", "a", 3, 9, 1), *FIVE_STEPS[:4]),
                     bounds=(("h", "x", 0), ("x", "h", 2), ("a", "p", 0), ("p", "a", 0)))
        inner = Plan(39, events=("y", "z"), steps=(("t", "y", 1, 2, 0),), bounds=(("z", "t", 0), ("t", "z", 0)))
        for kind in (EagerDriver, table_driver):
            driver = nested_driver(outer, "x", inner, "z", kind, kind)
            self.assertEqual((len(driver.plan.events), len(driver.plan.steps), driver.plan.horizon), (10, 5, 99))
            self.check(driver)


def side_by_side(outer, end, inner, last, durations):
    """What both drivers do, told by hand, with the names of the nested plan."""
    above, below = EagerDriver(outer), table_driver(inner)
    begin, delay = outer.step(end)[1], outer.step(end)[4]
    name = {**{point: point for point in inner.points}, last: end}
    times, inside = {"start": 0}, {"start": 0}

    def let_move(tick):
        own = tick - times[begin]
        news = [
            point for point, start, _, _, late in inner.steps
            if start in inside and late is not None and inside[start] + durations[name[point]] + late == own
        ]
        inside.update(dict.fromkeys(below(tuple(news)), own))
        for point, start, _, _, _ in inner.steps:
            if start in inside:
                inside[point] = inside[start] + durations[name[point]]
        times.update({name[point]: times[begin] + inside[point] for point in inside if point != "start"})

    for tick in range(outer.horizon + inner.horizon + 1):
        begun = begin in times
        if begun:
            let_move(tick)
        news = [end] if end in times and delay is not None and times[end] + delay == tick else []
        for point, start, _, _, late in outer.steps:
            if point != end and start in times and late is not None and times[start] + durations[point] + late == tick:
                news.append(point)
        times.update(dict.fromkeys(above(tuple(news)), tick))
        if begin in times and not begun:
            let_move(tick)
    return {event: times[event] for event in margin_answers.nested(outer, end, inner, last).events}


class Begun(Case):
    def test_drivers_are_checked(self):
        outer, inner = EagerDriver(OUTER), EagerDriver(spanned(OUTER, "c", INNER, "z"))
        begun = EagerDriver(OUTER), EagerDriver(spanned(OUTER, "c", INNER, "z"))
        for driver in begun:
            driver()
        for value in ODD + begun + (OUTER, Run(OUTER), EagerDriver, NestedDriver(outer, "c", inner, "z").run):
            if not isinstance(value, Driver) or value.tick != 0:
                self.refuses(InvalidOperation, NestedDriver, value, "c", inner, "z")
                self.refuses(InvalidOperation, NestedDriver, outer, "c", value, "z")
                self.refuses(InvalidOperation, NestedDriver, value, "x", inner, None)
                self.refuses(InvalidOperation, NestedDriver, outer, "x", value, None)

    def test_names_come_next(self):
        outer, inner = EagerDriver(OUTER), EagerDriver(INNER)
        for value in ODD + ("a", "v", "z", "start"):
            self.keeps(UnknownName, "name", value, NestedDriver, outer, value, inner, "z")
            self.keeps(UnknownName, "name", value, NestedDriver, outer, value, inner, "x")
        for value in ODD + ("a", "v", "c", "start"):
            self.keeps(UnknownName, "name", value, NestedDriver, outer, "c", inner, value)

    def test_those_of_nested(self):
        inner = spanned(OUTER, "c", INNER, "z")
        self.refuses(InvalidOperation, NestedDriver, EagerDriver(OUTER), "c", EagerDriver(inner.renamed(m="v")), "z")
        early = OUTER.with_delay("c", 0)
        late = spanned(OUTER, "c", ENDED.with_delay("q", 1), "q")
        self.refuses(InvalidOperation, NestedDriver, EagerDriver(early), "c", EagerDriver(late), "q")
        wide = EagerDriver(OUTER.with_horizon(94))
        self.keeps(TooMany, "limit", 99, NestedDriver, wide, "c", EagerDriver(inner), "z")
        # The horizon and the limits come ahead of the bounds of the span.
        self.keeps(TooMany, "limit", 99, NestedDriver, wide, "c", EagerDriver(INNER), "z")
        self.refuses(InvalidOperation, NestedDriver, wide, "c", EagerDriver(INNER.renamed(m="v")), "z")
        five = EagerDriver(Plan(9, events=("v",), steps=FIVE_STEPS))
        self.keeps(TooMany, "limit", 5, NestedDriver, five, "p", EagerDriver(INNER.renamed(p="x", q="y")), "z")

    def test_the_bounds_of_the_span(self):
        outer = EagerDriver(OUTER)
        for most, least, fits in (
            (None, None, False), (6, None, False), (None, -2, False), (6, -2, True), (5, -2, True), (6, -3, True),
            (7, -2, False), (6, -1, False), (4, -4, True), (6, 0, False),
        ):
            inner = INNER
            if most is not None:
                inner = inner.with_bound("start", "z", most)
            if least is not None:
                inner = inner.with_bound("z", "start", least)
            # Whether the drivers are safe is not asked.
            driver = PolicyDriver(inner, {})
            if fits:
                self.assertEqual(NestedDriver(outer, "c", driver, "z").plan, nested(OUTER, "c", inner, "z"))
            else:
                self.refuses(InvalidOperation, NestedDriver, outer, "c", driver, "z")

    def test_drivers_of_tighter_plans(self):
        inner = spanned(OUTER, "c", INNER, "z").with_bound("start", "z", 5)
        Drivers.check(self, NestedDriver(EagerDriver(OUTER), "c", EagerDriver(inner), "z"))

    def test_twins_are_played(self):
        outer, inner = EagerDriver(OUTER), EagerDriver(spanned(OUTER, "c", INNER, "z"))
        driver = NestedDriver(outer, "c", inner, "z")
        for ends in ((), ("d",), (), ("p",), (), ("q",), ()):
            driver(ends)
        self.assertEqual((outer.tick, inner.tick, driver.tick), (0, 0, 7))
        other = NestedDriver(outer, "c", inner, "z")
        outer()
        inner()
        self.assertEqual([other(), other(("d",)), other.tick], [(), ("a",), 2])
        self.assertEqual(other.run.plan, driver.plan)

    def test_by_keyword(self):
        outer, inner = EagerDriver(OUTER), EagerDriver(spanned(OUTER, "c", INNER, "z"))
        driver = NestedDriver(last="z", inner=inner, end="c", outer=outer)
        self.assertEqual(driver, NestedDriver(outer, "c", inner, "z"))
        self.assertEqual((driver(ends=()), driver(ends=("d",))), ((), ("a",)))


class Told(Case):
    def test_errors(self):
        driver = nested_driver(OUTER, "c", ENDED, "q")
        before = driver.twin()
        for value in ODD + (["d"], ("d",)):
            if not isinstance(value, tuple):
                self.refuses(InvalidOperation, driver, value)
            self.keeps(UnknownName, "name", value, driver, (value,))
            self.keeps(UnknownName, "name", value, driver, ("d", value))
        self.keeps(UnknownName, "name", "q", driver, ("q",))
        self.keeps(UnknownName, "name", "m", driver, ("m",))
        for ends in (("d",), ("c",), ("d", "d")):
            self.refuses(InvalidOperation, driver, ends)
        self.assertEqual(driver, before)
        driver()
        self.refuses(InvalidOperation, driver, ("d", "d"))
        self.refuses(InvalidOperation, driver, ("c",))
        driver()
        driver()
        before = driver.twin()
        self.refuses(InvalidOperation, driver)
        self.assertEqual(driver, before)
        self.assertEqual(driver(("d",)), ("a",))
        driver()
        driver()
        # Now the end can come that is c outside and q inside.
        self.keeps(UnknownName, "name", "q", driver, ("q",))
        driver(("c",))
        self.assertEqual(driver.run.times["c"], 6 - 0)

    def test_ends_in_any_order(self):
        outer = OUTER.with_step("e", "a", 2, 3, 0)
        one, other = (nested_driver(outer, "c", INNER, "z") for _ in range(2))
        for driver in (one, other):
            driver()
            driver(("d",))
            driver()
        self.assertEqual(one(("p", "e")), other(("e", "p")))
        self.assertEqual(one, other)
        self.assertEqual(one.run.times["e"], 3)

    def test_the_last_tick(self):
        driver = nested_driver(NEAR, "c", Plan(3, events=("z",)), "z")
        for _ in range(400):
            driver()
        self.assertEqual(driver.tick, 400)
        before = driver.twin()
        self.refuses(InvalidOperation, driver)
        self.assertEqual((driver, driver.tick, str(driver)), (before, 400, "driver at tick 400"))


class Compared(Case):
    def test_equal_drivers(self):
        one, other = (nested_driver(OUTER, "c", INNER, "z") for _ in range(2))
        self.assertIs(one == other, True)
        self.assertIs(one != other, False)
        one()
        self.assertNotEqual(one, other)
        other()
        self.assertEqual(one, other)

    def test_different_drivers(self):
        drivers = [
            nested_driver(OUTER, "c", INNER, "z"), nested_driver(OUTER, "c", INNER, "z", table_driver),
            nested_driver(OUTER, "c", INNER, "z", EagerDriver, table_driver), nested_driver(OUTER, "c", INNER.renamed(z="y"), "y"),
            nested_driver(OUTER.with_horizon(13), "c", INNER, "z"), nested_driver(OUTER, "c", ENDED, "q"),
            nested_driver(OUTER.with_delay("c", 0), "c", INNER, "z"),
            EagerDriver(nested(OUTER, "c", spanned(OUTER, "c", INNER, "z"), "z")),
        ]
        for one, other in itertools.permutations(drivers, 2):
            self.assertIs(one == other, False)
            self.assertIs(one != other, True)
        for value in ODD + (OUTER, drivers[0].run, str(drivers[0])):
            self.assertIs(drivers[0] == value, False)
            self.assertIs(value == drivers[0], False)

    def test_another_end_or_last_point(self):
        # Plans in which two steps, or two events, are alike.
        outer = Plan(9, events=("v",), steps=(("c", "start", 1, 2, 0), ("d", "start", 1, 2, 0)))
        inner = Plan(2, events=("y", "z"))
        both = inner.with_bound("start", "y", 2).with_bound("y", "start", -1)
        both = both.with_bound("start", "z", 2).with_bound("z", "start", -1)
        drivers = [NestedDriver(EagerDriver(outer), end, EagerDriver(both), last) for end in "cd" for last in "yz"]
        for one, other in itertools.permutations(drivers, 2):
            self.assertNotEqual(one, other)

    def test_twins(self):
        driver = nested_driver(OUTER, "c", INNER, "z")
        for ends in ((), ("d",), (), ("p",), (), ("q",), ()):
            twin = driver.twin()
            self.assertIs(type(twin), NestedDriver)
            self.assertEqual((twin, twin.run, twin.plan), (driver, driver.run, driver.plan))
            before = driver.run
            done = twin(ends)
            self.assertEqual(driver.run, before)
            self.assertNotEqual(twin, driver)
            self.assertEqual(driver(ends), done)
            self.assertEqual(twin, driver)


if __name__ == "__main__":
    unittest.main()
