"""Drivers: what they do, how they are told news, and when they are safe ([11.1], [11.2], stage 11)."""

import itertools
import random
import unittest

from heardlate.drive import drivers as module
from heardlate.drive.drivers import Driver, EagerDriver, PolicyDriver, TableDriver, drive, policy_of
from heardlate.errors import (
    InvalidDurations, InvalidOperation, InvalidPlan, InvalidPolicy, InvalidTable, Refuted, TooMany, UnknownName,
)
from heardlate.facts.decided import derived_paper, is_driven, paper_of
from heardlate.facts.refutations import is_refutation
from heardlate.facts.tables import is_table_paper, narrowed, table_numbers
from heardlate.plans.durations import all_durations
from heardlate.plans.plans import Plan
from heardlate.runs.policies import is_safe, played, reached_pairs, trimmed
from heardlate.runs.runs import Run
from tests import drive_answers, policy_answers, rule_answers, time_answers
from tests.samples import EARLY, EXACT, FIVE_STEPS, NEAR, ODD, OTHER, RARE, TEN_EVENTS, Case

CLASSES = (TableDriver, EagerDriver, PolicyDriver)
# c and d can be heard in the same tick; v waits for both of them, w for nothing.
BOTH = Plan(
    9,
    events=("v", "w"),
    steps=(("c", "start", 2, 4, 1), ("d", "start", 1, 4, 2), ("n", "w", 1, 3, None)),
    bounds=(("v", "c", 0), ("v", "d", 0)),
)
LIMIT = Plan(
    99, events=TEN_EVENTS, steps=FIVE_STEPS,
    bounds=(("p", "a", 0), ("a", "p", 1), ("q", "b", 5), ("b", "q", 0), ("j", "i", -4), ("i", "t", 3)),
)


def driven_plans(many, seed, **more):
    return [plan for plan in time_answers.some_plans(many, seed, **more) if is_driven(plan)]


def drivers_of(plan):
    """A driver of each class for a driven plan."""
    eager = EagerDriver(plan)
    return TableDriver(plan, derived_paper(plan)), eager, PolicyDriver(plan, policy_of(eager))


def narrower_papers(plan, chance):
    """Papers of a plan with tables that are narrower than the derived one."""
    paper = derived_paper(plan)
    for _ in range(3):
        values = rule_answers.values_of(paper[1], paper[2])
        fact = chance.choice(list(values))
        table = narrowed(plan, paper[1], paper[2], fact, values[fact] - chance.randint(1, 2))
        if table is not None:
            paper = ("table", *table, table_numbers(plan, *table))
            yield paper


class Classes(Case):
    def test_modules(self):
        for part in (Driver, *CLASSES, drive, policy_of):
            self.assertEqual(part.__module__, "heardlate.drive.drivers")
            self.assertIs(getattr(module, part.__name__), part)

    def test_methods_stand_in_each_class(self):
        for kind in CLASSES:
            self.assertTrue(issubclass(kind, Driver))
            for name in ("__init__", "__call__", "plan", "tick", "run", "twin", "__eq__", "__str__"):
                self.assertIn(name, vars(kind), (kind, name))

    def test_properties(self):
        for driver in drivers_of(NEAR):
            self.assertEqual((driver.plan, driver.tick, driver.run), (NEAR, 0, Run(NEAR)))
            self.assertEqual(driver(), ())
            self.assertEqual((driver.plan, driver.tick, driver.run), (NEAR, 1, Run(NEAR).wait()))
            for name in ("plan", "tick", "run"):
                self.assertRaises(AttributeError, setattr, driver, name, 1)
            self.assertEqual(str(driver), "driver at tick 1")
            self.assertEqual(str(driver.twin()), "driver at tick 1")

    def test_no_iteration(self):
        for driver in drivers_of(NEAR):
            self.assertRaises(TypeError, iter, driver)
            self.assertRaises(TypeError, list, driver)

    def test_examples(self):
        self.assertEqual(drive(EagerDriver(NEAR), {"c": 4})[0], {"v": 3})
        self.assertEqual(drive(TableDriver(NEAR, derived_paper(NEAR)), {"c": 2})[0], {"v": 3})


class Begun(Case):
    def test_the_plan_is_checked(self):
        for value in ODD:
            if not isinstance(value, Plan):
                self.refuses(InvalidPlan, TableDriver, value, derived_paper(NEAR))
                self.refuses(InvalidPlan, PolicyDriver, value, EARLY)
                self.refuses(InvalidPlan, EagerDriver, value)
                self.refuses(InvalidPlan, TableDriver, value, None)
                self.refuses(InvalidPlan, PolicyDriver, value, None)

    def test_papers_are_checked(self):
        word, plain, late, numbers = derived_paper(NEAR)
        for value in ODD + (
            paper_of(EXACT), paper_of(OTHER), (plain, late), (word, plain, late), (word, plain, late, {}),
            (word, plain, late, {**numbers, "v": 99}), (word, {**plain, ("v", "c"): 3}, late, numbers),
            [word, plain, late, numbers], derived_paper(NEAR.with_bound("v", "c", 3)),
        ):
            self.refuses(InvalidTable, TableDriver, NEAR, value)
        self.refuses(InvalidTable, TableDriver, EXACT, derived_paper(NEAR))
        self.refuses(InvalidTable, TableDriver, EXACT, paper_of(EXACT))

    def test_policies_are_checked(self):
        for value in ODD + ({(11, ()): ("v",)}, {(0, ()): ("x",)}, {(True, ()): ("v",)}, list(EARLY)):
            if value != {} and value != EARLY:
                self.refuses(InvalidPolicy, PolicyDriver, NEAR, value)
        self.assertEqual(PolicyDriver(EXACT, EARLY)(), ())

    def test_refuted_plans(self):
        for plan in (EXACT, NEAR.deaf(), Plan(4, events=("v",), bounds=(("v", "start", -5),))):
            paper = self.refuses(Refuted, EagerDriver, plan).paper
            self.assertIs(is_refutation(plan, paper), True)

    def test_what_is_passed_stays_outside(self):
        paper = derived_paper(NEAR)
        driver = TableDriver(NEAR, paper)
        before = derived_paper(NEAR)
        for part in paper[1:]:
            part.update(dict.fromkeys(part, -9))
        self.assertEqual(driver, TableDriver(NEAR, before))
        self.assertEqual(drive(driver, {"c": 2})[0], {"v": 3})
        policy = dict(EARLY)
        driver = PolicyDriver(NEAR, policy)
        policy[(0, ())] = ("v",)
        self.assertEqual(drive(driver, {"c": 2})[0], {"v": 2})
        self.assertEqual(driver, PolicyDriver(NEAR, EARLY))
        paper = derived_paper(NEAR)
        TableDriver(NEAR, paper)()
        self.assertEqual(paper, derived_paper(NEAR))

    def test_names_are_passed_by_position_or_keyword(self):
        self.assertEqual(EagerDriver(plan=NEAR), EagerDriver(NEAR))
        driver = EagerDriver(NEAR)
        self.assertEqual((driver(ends=()), driver(ends=("c",))), ((), ("v",)))


class Told(Case):
    def test_ends_in_any_order(self):
        for kind in range(3):
            one, other = drivers_of(BOTH)[kind], drivers_of(BOTH)[kind]
            for _ in range(4):
                self.assertEqual(one(), other())
            self.assertEqual(one(("c", "d")), other(("d", "c")))
            self.assertEqual(one, other)
            self.assertEqual({"c": 3, "d": 2}.items() & one.run.times.items(), {("c", 3), ("d", 2)})

    def test_ends_that_cannot_come(self):
        for driver in drivers_of(BOTH):
            for ends in (("c",), ("d",), ("n",), ("c", "d")):
                self.refuses(InvalidOperation, driver, ends)
            for _ in range(3):
                driver()
            self.refuses(InvalidOperation, driver, ("n",))
            driver(("c",))
            self.refuses(InvalidOperation, driver, ("c",))
            self.refuses(InvalidOperation, driver, ("d", "c"))

    def test_ends_named_twice(self):
        for driver in drivers_of(BOTH):
            for _ in range(3):
                driver()
            for ends in (("c", "c"), ("c", "d", "c"), ("d", "d")):
                self.refuses(InvalidOperation, driver, ends)
            self.assertEqual(driver.tick, 3)

    def test_news_that_is_missing(self):
        for driver in drivers_of(BOTH):
            for _ in range(5):
                driver()
            for ends in ((), ("d",)):
                self.refuses(InvalidOperation, driver, ends)
            driver(("c",))
            self.refuses(InvalidOperation, driver)
            driver(("d",))
            self.assertEqual(driver.tick, 7)

    def test_unknown_ends(self):
        for driver in drivers_of(BOTH):
            for value in ODD + ("v", "w", "start", "x", ("c",)):
                self.keeps(UnknownName, "name", value, driver, (value,))
                self.keeps(UnknownName, "name", value, driver, ("c", value))
                self.keeps(UnknownName, "name", value, driver, ("c", "c", value, "x"))
            for _ in range(5):
                driver()
            self.keeps(UnknownName, "name", "x", driver, ("x",))

    def test_what_is_no_tuple(self):
        for driver in drivers_of(BOTH):
            for value in ODD + ("c", ["c"], {"c": 3}, ["x"], "x"):
                if not isinstance(value, tuple):
                    self.refuses(InvalidOperation, driver, value)
            self.assertEqual(driver.tick, 0)

    def test_an_error_changes_nothing(self):
        for driver in drivers_of(BOTH):
            for _ in range(5):
                driver()
            before = driver.twin()
            for ends in ((), ("d",), ("c", "c"), ("n", "c"), ["c"]):
                self.refuses(InvalidOperation, driver, ends)
                self.assertEqual(driver, before)
            self.refuses(UnknownName, driver, ("c", "x"))
            self.assertEqual(driver, before)
            self.assertEqual(driver(("c",)), before(("c",)))
            self.assertEqual(driver, before)

    def test_behind_the_horizon(self):
        for driver in drivers_of(NEAR):
            for tick in range(400):
                done = driver(("c",) if tick == 5 else ())
                self.assertEqual(done if tick > 10 else (), ())
            self.assertEqual((driver.tick, driver.run.tick, str(driver)), (400, 400, "driver at tick 400"))
            before = driver.twin()
            for ends in ((), ("c",), ["c"]):
                self.refuses(InvalidOperation, driver, ends)
            self.keeps(UnknownName, "name", "v", driver, ("v",))
            self.assertEqual((driver, driver.tick), (before, 400))

    def test_news_behind_the_horizon(self):
        plan = Plan(3, events=("v",), steps=(("c", "v", 1, 9, 9),))
        for driver in drivers_of(plan):
            for _ in range(30):
                if driver.run.expected().get("c", (0, 99))[1] == driver.tick:
                    break
                driver()
            self.refuses(InvalidOperation, driver)
            self.assertEqual(driver(("c",)), ())
            self.assertEqual(driver.run.pending, ())
        # A policy that leaves its event undone does nothing behind the horizon either.
        driver = PolicyDriver(plan, {})
        self.assertEqual([driver() for _ in range(9)], [()] * 9)


class Played(Case):
    def test_table_drivers_look_at_the_stand(self):
        chance = random.Random(131)
        other = 0
        for plan in driven_plans(120, 132, steps=3):
            papers = [derived_paper(plan), *narrower_papers(plan, chance)]
            for paper in papers:
                for run, ends, done, driver in drive_answers.all_moments(TableDriver(plan, paper)):
                    self.assertEqual(done, drive_answers.told_by_table(run.hear(*ends), paper))
                    self.assertEqual(driver.run, run.hear(*ends).do(*done).wait())
            other += len(papers) - 1
        self.assertGreater(other, 50)

    def test_eager_drivers_look_at_rests(self):
        for plan in driven_plans(120, 133, steps=3):
            for run, ends, done, driver in drive_answers.all_moments(EagerDriver(plan)):
                self.assertEqual(done, drive_answers.told_by_eagerness(run.hear(*ends)))
                self.assertEqual(driver.run, run.hear(*ends).do(*done).wait())

    def test_what_may_be_done_only_behind_another_event(self):
        # When the end is heard, one tick after it would do for w; but v, which comes before w, was not done yet.
        plan = Plan(
            20, events=("u", "v", "w"), steps=(("c", "start", 1, 5, 3),),
            bounds=(("v", "c", 0), ("w", "v", -1), ("u", "w", -1)),
        )
        for duration, first in ((1, 4), (2, 5), (3, 5)):
            done, _ = drive(EagerDriver(plan), {"c": duration})
            self.assertEqual(done, {"u": first + 2, "v": first, "w": first + 1})
        plan = plan.with_bound("w", "v", 0).with_bound("u", "w", 0)
        self.assertEqual(drive(EagerDriver(plan), {"c": 1})[0], {"u": 4, "v": 4, "w": 4})
        for one in (plan, plan.with_bound("w", "v", -2), plan.with_bound("v", "w", 3)):
            for run, ends, done, _ in drive_answers.all_moments(EagerDriver(one)):
                self.assertEqual(done, drive_answers.told_by_eagerness(run.hear(*ends)))

    def test_rare_plans(self):
        for plan in RARE[:-3]:
            for driver in drivers_of(plan):
                self.assertIs(drive_answers.is_safe(driver), True)
            paper = derived_paper(plan)
            for run, ends, done, _ in drive_answers.all_moments(TableDriver(plan, paper)):
                self.assertEqual(done, drive_answers.told_by_table(run.hear(*ends), paper))
            for run, ends, done, _ in drive_answers.all_moments(EagerDriver(plan)):
                self.assertEqual(done, drive_answers.told_by_eagerness(run.hear(*ends)))

    def test_policy_drivers_do_what_the_policy_tells(self):
        for plan, policy in policy_answers.some_policies(150, 134, steps=3):
            for durations in time_answers.durations_in_order(plan)[:15]:
                driver = PolicyDriver(plan, policy)
                self.assertEqual(drive(driver, durations), played(plan, policy, durations))
                self.assertEqual(driver, PolicyDriver(plan, policy))
                self.assertEqual(drive_answers.doings(driver, durations), played(plan, policy, durations)[0])

    def test_they_are_safe(self):
        chance = random.Random(135)
        for plan in driven_plans(100, 136, steps=3):
            self.assertIs(drive_answers.is_safe(EagerDriver(plan)), True)
            for paper in (derived_paper(plan), *narrower_papers(plan, chance)):
                self.assertIs(is_table_paper(plan, paper), True)
                self.assertIs(drive_answers.is_safe(TableDriver(plan, paper)), True)

    def test_numbers_of_the_paper_do_not_matter(self):
        word, plain, late, numbers = derived_paper(NEAR)
        one = TableDriver(NEAR, (word, plain, late, numbers))
        other = TableDriver(NEAR, (word, plain, late, {point: numbers[point] + 3 for point in numbers}))
        self.assertNotEqual(one, other)
        self.assertEqual(policy_of(one), policy_of(other))

    def test_a_table_that_is_not_the_derived_one(self):
        word, plain, late, _ = derived_paper(NEAR)
        table = narrowed(NEAR, plain, late, ("plain", "start", "v"), 4)
        driver = TableDriver(NEAR, (word, *table, table_numbers(NEAR, *table)))
        self.assertEqual([drive(driver, {"c": c})[0]["v"] for c in range(1, 6)], [2, 3, 4, 4, 4])
        driver = TableDriver(NEAR, derived_paper(NEAR))
        self.assertEqual([drive(driver, {"c": c})[0]["v"] for c in range(1, 6)], [2, 3, 4, 5, 6])

    def test_ascending_events(self):
        plan = Plan(3, events=("b", "c", "a"))
        self.assertEqual(EagerDriver(plan)(), ("a", "b", "c"))
        driver = TableDriver(plan, derived_paper(plan))
        self.assertEqual([driver() for _ in range(5)], [(), (), (), ("a", "b", "c"), ()])

    def test_plans_without_events_or_steps(self):
        for plan in (Plan(0), Plan(3), Plan(2, steps=(("c", "start", 1, 2, 0),))):
            for driver in drivers_of(plan):
                for durations in all_durations(plan):
                    done, run = drive(driver, durations)
                    self.assertEqual((done, run.tick), ({}, plan.horizon + 1))

    def test_plans_at_the_limits(self):
        for driver in drivers_of(LIMIT):
            for durations in all_durations(LIMIT):
                done, run = drive(driver, durations)
                self.assertEqual((list(done), run.tick, run.left), (list(TEN_EVENTS), 100, ()))
                self.assertEqual(time_answers.broken(LIMIT, time_answers.times_with(LIMIT, done, durations)), ())


class Twins(Case):
    def test_twins_go_on_apart(self):
        for plan in (NEAR, BOTH):
            for driver in drivers_of(plan):
                driver()
                before = driver.run
                twin = driver.twin()
                self.assertIs(type(twin), type(driver))
                self.assertEqual((twin, twin.run), (driver, before))
                twin()
                twin()
                self.assertEqual((driver.run, driver.tick, twin.tick), (before, 1, 3))
                self.assertNotEqual(driver, twin)
                driver()
                self.assertNotEqual(driver, twin)
                driver()
                self.assertEqual(driver, twin)
                again = twin.twin()
                ends = ("c",) if plan == NEAR else ()
                self.assertEqual((driver(ends), again(ends)), (twin(ends),) * 2)
                self.assertEqual((driver, again), (twin, twin))

    def test_twins_in_the_middle_of_runs(self):
        for plan in driven_plans(40, 137, steps=3):
            for driver in drivers_of(plan):
                for run, ends, done, behind in drive_answers.all_moments(driver):
                    twin = behind.twin()
                    self.assertEqual((twin, twin.run, twin.plan), (behind, behind.run, plan))


class Compared(Case):
    def test_different_classes(self):
        drivers = drivers_of(NEAR)
        for one, other in itertools.permutations(drivers, 2):
            self.assertIs(one == other, False)
            self.assertIs(one != other, True)
        for one, other in zip(drivers, drivers_of(NEAR)):
            self.assertIs(one == other, True)
            self.assertIs(one != other, False)

    def test_different_papers_and_policies(self):
        word, plain, late, numbers = derived_paper(NEAR)
        table = narrowed(NEAR, plain, late, ("plain", "start", "v"), 5)
        one = TableDriver(NEAR, (word, plain, late, numbers))
        self.assertNotEqual(one, TableDriver(NEAR, (word, *table, table_numbers(NEAR, *table))))
        same = (word, dict(reversed(plain.items())), dict(reversed(late.items())), dict(reversed(numbers.items())))
        self.assertEqual(one, TableDriver(NEAR, same))
        self.assertNotEqual(PolicyDriver(NEAR, EARLY), PolicyDriver(NEAR, {}))
        self.assertNotEqual(PolicyDriver(NEAR, EARLY), PolicyDriver(NEAR, {**EARLY, (9, ()): ()}))
        self.assertEqual(PolicyDriver(NEAR, EARLY), PolicyDriver(NEAR, dict(reversed(EARLY.items()))))

    def test_different_runs(self):
        more = NEAR.with_horizon(11)
        self.assertNotEqual(EagerDriver(NEAR), EagerDriver(more))
        self.assertNotEqual(TableDriver(NEAR, derived_paper(NEAR)), TableDriver(more, derived_paper(NEAR)))
        self.assertNotEqual(PolicyDriver(NEAR, EARLY), PolicyDriver(more, EARLY))
        for kind in range(3):
            one, other = drivers_of(BOTH)[kind], drivers_of(BOTH)[kind]
            for _ in range(4):
                one()
                other()
            one(("c",))
            other(("d",))
            self.assertNotEqual(one, other)

    def test_other_values(self):
        for driver in drivers_of(NEAR):
            for value in ODD + (Run(NEAR), NEAR, str(driver), derived_paper(NEAR), EARLY, Driver):
                self.assertIs(driver == value, False)
                self.assertIs(driver != value, True)
                self.assertIs(value == driver, False)


class Driven(Case):
    def test_drive_uses_a_twin(self):
        for driver in drivers_of(NEAR):
            before = driver.twin()
            done, run = drive(driver, {"c": 5})
            self.assertEqual((driver, driver.tick), (before, 0))
            done["v"] = 99
            self.assertEqual(drive(driver, {"c": 5})[1], run)
            self.assertNotEqual(drive(driver, {"c": 5})[0], done)
            self.assertEqual((run.tick, run.is_behind), (11, False))

    def test_against_a_plain_answer(self):
        for plan in driven_plans(80, 138, steps=3):
            for driver in drivers_of(plan):
                for durations in time_answers.durations_in_order(plan)[:20]:
                    done, run = drive(driver, durations)
                    self.assertEqual(done, drive_answers.doings(driver, durations))
                    self.assertEqual(list(done), sorted(done))
                    self.assertEqual((run.tick, run.is_behind, run.plan), (plan.horizon + 1, False, plan))
                    self.assertEqual(run.finished(durations), time_answers.times_with(plan, done, durations))

    def test_errors(self):
        begun = EagerDriver(NEAR)
        begun()
        for value in ODD + (begun, Run(NEAR), NEAR, EagerDriver):
            if not isinstance(value, Driver) or value is begun:
                self.refuses(InvalidOperation, drive, value, {"c": 1})
                self.refuses(InvalidOperation, drive, value, None)
                self.refuses(InvalidOperation, policy_of, value)
        for driver in drivers_of(NEAR):
            for value in ODD + ({"c": 0}, {"c": 6}, {"c": True}, {"c": 1, "v": 1}, {"v": 1}):
                self.refuses(InvalidDurations, drive, driver, value)
            self.assertEqual(driver.tick, 0)


class Policies(Case):
    def test_near(self):
        self.assertEqual(policy_of(EagerDriver(NEAR)), EARLY)
        self.assertEqual(list(policy_of(EagerDriver(NEAR))), sorted(EARLY))
        self.assertEqual(
            policy_of(TableDriver(NEAR, derived_paper(NEAR))),
            {(c + 1, (("c", c),)): ("v",) for c in range(1, 6)},
        )
        self.assertEqual(policy_of(PolicyDriver(NEAR, {**EARLY, (4, ()): ("v",), (9, ()): ()})), EARLY)
        self.assertEqual(policy_of(EagerDriver(Plan(0))), {})

    def test_it_does_the_same(self):
        for plan in driven_plans(80, 139, steps=3):
            for driver in drivers_of(plan):
                policy = policy_of(driver)
                self.assertEqual(list(policy), sorted(policy))
                self.assertIs(is_safe(plan, policy), True)
                self.assertEqual(trimmed(plan, policy), policy)
                for durations in all_durations(plan):
                    self.assertEqual(played(plan, policy, durations), drive(driver, durations))
                expected = {}
                for run, ends, done, other in drive_answers.all_moments(driver):
                    if done:
                        heard = tuple((end, other.run.times[end]) for end in plan.ends if end in other.run.times)
                        expected[(run.tick, heard)] = done
                self.assertEqual(policy, dict(sorted(expected.items())))
                self.assertEqual(driver.tick, 0)

    def test_policies_that_are_not_safe(self):
        for plan, policy in policy_answers.some_policies(150, 140, steps=3):
            self.assertEqual(policy_of(PolicyDriver(plan, policy)), trimmed(plan, policy))

    def test_too_many_durations(self):
        most = Plan(1, events=("v",), steps=(
            ("c", "start", 1, 50, None), ("d", "start", 1, 50, 9), ("e", "start", 1, 2, 0),
        ))
        for driver in drivers_of(most):
            self.assertLess(len(policy_of(driver)), 3)
        more = most.with_span("c", 1, 41).with_span("d", 1, 61)
        for plan in (more, Plan(0, steps=tuple((end, "start", 1, 99, None) for end in "pqrst"))):
            for driver in (EagerDriver(plan), TableDriver(plan, derived_paper(plan)), PolicyDriver(plan, {})):
                self.keeps(TooMany, "limit", 5000, policy_of, driver)
                driver()
                self.refuses(InvalidOperation, policy_of, driver)

    def test_too_many_pairs(self):
        # The event is done at the same tick, whatever was heard, and that may be any of so many pairs.
        plan = Plan(50, events=("v",), steps=(("c", "start", 1, 50, 0), ("d", "start", 1, 40, 0)))
        plan = plan.with_bound("v", "start", -50)
        for driver in (EagerDriver(plan), TableDriver(plan, derived_paper(plan))):
            policy = policy_of(driver)
            self.assertEqual(len(policy), 2000)
            self.assertEqual({pair[0] for pair in policy}, {50})
        self.assertEqual(policy_of(PolicyDriver(plan, policy)), policy)
        plan = Plan(50, events=("v",), steps=(("c", "start", 1, 23, 0), ("d", "start", 1, 29, 0), ("e", "start", 1, 3, 0)))
        plan = plan.with_bound("v", "start", -50)
        self.assertEqual(len(policy_of(EagerDriver(plan.with_span("e", 1, 2)))), 23 * 29 * 2)
        for driver in (EagerDriver(plan), TableDriver(plan, derived_paper(plan))):
            self.keeps(TooMany, "limit", 2000, policy_of, driver)

    def test_nothing_stays(self):
        for driver in drivers_of(NEAR):
            policy = policy_of(driver)
            before = dict(policy)
            policy.clear()
            self.assertEqual(policy_of(driver), before)

    def test_plans_at_the_limits(self):
        for driver in drivers_of(LIMIT):
            policy = policy_of(driver)
            self.assertIs(is_safe(LIMIT, policy), True)
            self.assertLessEqual(set(policy), set(reached_pairs(LIMIT, policy)))


if __name__ == "__main__":
    unittest.main()
