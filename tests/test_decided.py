"""Plans decided: one kind of paper for each plan, and what its derived table implies ([10.1], [0.14], [0.15])."""

import itertools
import random
import unittest

from heardlate.base.arcs import numbers_paper
from heardlate.errors import InvalidPlan, Refuted, UnknownName
from heardlate.facts import decided as module
from heardlate.facts.decided import derived_paper, implied, is_driven, is_paper, paper_of, same_tables
from heardlate.facts.refutations import is_refutation
from heardlate.facts.tables import derived_table, is_table_paper, table_numbers
from heardlate.plans.plans import Plan
from heardlate.plans.timetables import arcs_of, first_untimed, fixed_times
from heardlate.runs.policies import is_safe
from tests import time_answers
from tests.game_answers import Game
from tests.samples import EXACT, FIVE_STEPS, NEAR, ODD, OTHER, TEN_EVENTS, Case


class Papers(Case):
    def test_modules(self):
        for name in ("paper_of", "is_paper", "is_driven", "implied", "same_tables", "derived_paper"):
            self.assertEqual(getattr(module, name).__module__, "heardlate.facts.decided")

    def test_examples(self):
        self.assertEqual([is_driven(plan) for plan in (NEAR, EXACT, NEAR.deaf())], [True, False, False])
        self.assertEqual(paper_of(EXACT)[0], "refuted")
        self.assertEqual(paper_of(NEAR)[0], "table")

    def test_exactly_one_kind_exists(self):
        kinds = {True: 0, False: 0}
        for plan in itertools.chain(
            time_answers.some_plans(500, 111), time_answers.some_plans(200, 112, steps=3, horizon=4, longest=3)
        ):
            paper = paper_of(plan)
            driven = Game(plan).is_driven()
            self.assertIs(is_driven(plan), driven)
            self.assertEqual(paper[0], "table" if driven else "refuted")
            self.assertIs(is_table_paper(plan, paper), driven)
            self.assertIs(is_refutation(plan, paper), not driven)
            self.assertIs(is_paper(plan, paper), True)
            kinds[driven] += 1
        self.assertGreater(min(kinds.values()), 150)

    def test_is_paper(self):
        for plan in (NEAR, EXACT, NEAR.deaf(), Plan(0), OTHER):
            for other in (NEAR, EXACT, NEAR.deaf(), Plan(0), OTHER):
                paper = paper_of(other)
                self.assertIs(is_paper(plan, paper), is_table_paper(plan, paper) or is_refutation(plan, paper))
        self.assertIs(is_paper(NEAR, paper_of(EXACT)), False)
        self.assertIs(is_paper(EXACT, paper_of(NEAR)), False)
        word, plain, late, numbers = paper_of(NEAR)
        self.assertIs(is_paper(NEAR, (word, plain, late, {point: numbers[point] - 8 for point in numbers})), True)
        self.assertIs(is_paper(NEAR, (word, plain, late, {**numbers, "v": numbers["v"] + 99})), False)
        word, rows, ring = paper_of(EXACT)
        self.assertIs(is_paper(EXACT, (word, rows + rows[:1], ring * 3)), True)
        self.assertIs(is_paper(EXACT, (word, rows, ())), False)

    def test_other_values(self):
        known = (paper_of(NEAR), paper_of(EXACT))
        for value in ODD + (("table",), ("refuted",), known, list(known[0]), list(known[1]), known[0][1:], known[1][1:]):
            self.assertIs(is_paper(NEAR, value), False)
            self.assertIs(is_paper(EXACT, value), value == known[1])

    def test_plans_at_the_limits(self):
        plan = Plan(99, events=TEN_EVENTS, steps=FIVE_STEPS, bounds=(("p", "a", 0), ("a", "p", 1), ("j", "t", 0)))
        self.assertIs(is_table_paper(plan, paper_of(plan)), True)
        self.assertIs(is_table_paper(plan, derived_paper(plan)), True)
        self.assertEqual(implied(plan, "start", "a"), 2)
        deaf = plan.deaf("p")
        self.assertIs(is_driven(deaf), True)
        deaf = deaf.with_bound("a", "p", 0)
        self.assertIs(is_refutation(deaf, paper_of(deaf)), True)

    def test_the_plan_is_checked(self):
        for value in ODD:
            if not isinstance(value, Plan):
                for call in (paper_of, is_driven, derived_paper):
                    self.refuses(InvalidPlan, call, value)
                self.refuses(InvalidPlan, is_paper, value, paper_of(NEAR))
                self.refuses(InvalidPlan, is_paper, value, None)

    def test_nothing_stays(self):
        _, plain, late, numbers = paper_of(NEAR)
        for numbers in (plain, late, numbers):
            numbers.clear()
        self.assertIs(is_table_paper(NEAR, paper_of(NEAR)), True)
        self.assertEqual(paper_of(NEAR), paper_of(NEAR))
        self.assertEqual(paper_of(EXACT), paper_of(EXACT))


class NotTrue(Case):
    """What [0.15] lists."""

    def test_times_for_all_durations_and_no_safe_driver(self):
        self.assertIsNone(first_untimed(EXACT))
        self.assertIs(is_driven(EXACT), False)

    def test_no_fixed_ticks_and_a_safe_driver(self):
        self.assertIsNone(fixed_times(NEAR))
        self.assertIs(is_driven(NEAR), True)
        self.assertIs(is_driven(NEAR.deaf()), False)

    def test_one_tick_later(self):
        self.assertIs(is_driven(NEAR.with_delay("c", 1)), True)
        self.assertIs(is_driven(NEAR.with_delay("c", 2)), False)

    def test_two_steps_in_a_row(self):
        row = Plan(
            20, events=("m", "v"), steps=(("c", "start", 1, 5, 0), ("d", "m", 3, 3, 0)),
            bounds=(("c", "m", 0), ("m", "c", 0), ("v", "d", 1), ("d", "v", -1)),
        )
        one = Plan(20, events=("v",), steps=(("d", "start", 4, 8, 0),), bounds=(("v", "d", 1), ("d", "v", -1)))
        self.assertEqual((is_driven(row), is_driven(one)), (True, False))

    def test_bounds_without_waits(self):
        self.assertEqual(numbers_paper(arcs_of(EXACT))[0], "numbers")

    def test_as_soon_as_the_bounds_permit(self):
        # The event may be done at tick 0 as far as the bounds tell, but then the end may come too late.
        self.assertIs(is_safe(NEAR, {(0, ()): ("v",)}), False)

    def test_a_narrower_span_leaves_a_plan_driven(self):
        chance = random.Random(113)
        for plan in time_answers.some_plans(300, 114, steps=3):
            if is_driven(plan) and plan.steps:
                end, _, least, most, _ = chance.choice(plan.steps)
                low = chance.randint(least, most)
                self.assertIs(is_driven(plan.with_span(end, low, chance.randint(low, most))), True)

    def test_what_asks_for_less_is_driven_too(self):
        chance = random.Random(115)
        for plan in time_answers.some_plans(200, 116, steps=3):
            if is_driven(plan):
                self.assertIs(is_driven(plan.prompt()), True)
                self.assertIs(is_driven(plan.with_horizon(plan.horizon + 1)), True)
                if plan.bounds:
                    first, second, most = chance.choice(plan.bounds)
                    self.assertIs(is_driven(plan.with_bound(first, second, most + 1)), True)
                    self.assertIs(is_driven(plan.without_bound(first, second)), True)


class Implied(Case):
    def test_example(self):
        self.assertEqual(implied(NEAR, "start", "v"), 6)
        self.assertEqual(implied(NEAR, "v", "start"), -1)

    def test_a_point_and_itself(self):
        for point in NEAR.points:
            self.assertEqual(implied(NEAR, point, point), 0)
            self.assertIs(is_refutation(EXACT, self.refuses(Refuted, implied, EXACT, point, point).paper), True)
        self.assertEqual(implied(Plan(0), "start", "start"), 0)

    def test_all_pairs(self):
        for plan in time_answers.some_plans(80, 117, steps=3):
            table = derived_table(plan)
            for first, second in itertools.product(plan.points, repeat=2):
                if table is None:
                    paper = self.refuses(Refuted, implied, plan, first, second).paper
                    self.assertIs(is_refutation(plan, paper), True)
                else:
                    self.assertEqual(implied(plan, first, second), table[0][(first, second)])
                    if first != second:
                        again = plan.with_bound(first, second, table[0][(first, second)])
                        self.assertEqual(derived_table(again), table)
                        self.assertIs(same_tables(plan, again), True)

    def test_errors(self):
        for value in ODD + ("x", "V", ("v",), ["v"]):
            if not isinstance(value, Plan):
                self.refuses(InvalidPlan, implied, value, "v", "c")
                self.refuses(InvalidPlan, implied, value, None, None)
            if value != "start":
                for plan in (NEAR, EXACT):
                    self.keeps(UnknownName, "name", value, implied, plan, value, "c")
                    self.keeps(UnknownName, "name", value, implied, plan, "c", value)
                    self.keeps(UnknownName, "name", value, implied, plan, value, "x")
                    self.keeps(UnknownName, "name", "w", implied, plan, "w", value)


class SameTables(Case):
    def test_driven_plans(self):
        self.assertIs(same_tables(NEAR, NEAR), True)
        self.assertIs(same_tables(NEAR, NEAR.with_horizon(20)), True)
        self.assertIs(same_tables(NEAR, NEAR.with_horizon(6)), True)
        self.assertIs(same_tables(NEAR, NEAR.with_horizon(5)), False)
        self.assertIs(same_tables(NEAR, NEAR.with_bound("start", "v", 6)), True)
        self.assertIs(same_tables(NEAR, NEAR.with_bound("start", "v", 5)), False)
        self.assertIs(same_tables(NEAR, NEAR.without_bound("v", "c")), False)

    def test_refuted_plans(self):
        self.assertIs(same_tables(EXACT, EXACT), True)
        self.assertIs(same_tables(EXACT, EXACT.with_horizon(0)), True)
        self.assertIs(same_tables(EXACT, NEAR.with_bound("start", "v", -1)), True)
        self.assertIs(same_tables(EXACT, NEAR), False)
        self.assertIs(same_tables(NEAR, EXACT), False)
        self.assertIs(same_tables(EXACT, EXACT.with_delay("c", 1)), False)
        self.assertIs(same_tables(EXACT, EXACT.deaf()), False)
        self.assertIs(same_tables(EXACT, EXACT.with_event("w")), False)
        self.assertIs(same_tables(EXACT, EXACT.renamed(v="w")), False)

    def test_other_points_and_steps(self):
        one = Plan(9, events=("v",), steps=(("c", "start", 2, 2, 0),))
        for other in (
            one.with_delay("c", 1), one.deaf(), one.renamed(v="w"), one.renamed(c="d"), one.with_event("w"),
            one.without("v"), one.without("c"), Plan(9), one.with_span("c", 2, 3),
        ):
            self.assertIs(same_tables(one, other), False)
            self.assertIs(same_tables(other, one), False)
        self.assertEqual(derived_table(one), derived_table(one.with_delay("c", 1)))

    def test_against_a_plain_answer(self):
        chance = random.Random(118)
        same = 0
        for plan in time_answers.some_plans(250, 119, steps=3):
            other = plan
            if len(plan) > 1:
                first, second = chance.sample(plan.points, 2)
                other = plan.with_bound(first, second, chance.randint(-1, 9))
            expected = derived_table(plan) == derived_table(other)
            self.assertIs(same_tables(plan, other), expected)
            same += expected
        self.assertTrue(50 < same < 240)

    def test_errors(self):
        for value in ODD:
            if not isinstance(value, Plan):
                for plan in (NEAR, EXACT):
                    self.refuses(InvalidPlan, same_tables, value, plan)
                    self.refuses(InvalidPlan, same_tables, plan, value)
                self.refuses(InvalidPlan, same_tables, value, value)


class DerivedPaper(Case):
    def test_the_table_is_the_derived_one(self):
        for plan in time_answers.some_plans(150, 120, steps=3):
            table = derived_table(plan)
            if table is None:
                self.assertIs(is_refutation(plan, self.refuses(Refuted, derived_paper, plan).paper), True)
            else:
                paper = derived_paper(plan)
                self.assertEqual((paper[0], paper[1:3]), ("table", table))
                self.assertIs(is_table_paper(plan, paper), True)
                self.assertEqual([list(part) for part in paper[1:]], [sorted(part) for part in paper[1:]])

    def test_near(self):
        word, plain, late, numbers = derived_paper(NEAR)
        self.assertEqual((plain, late), derived_table(NEAR))
        self.assertEqual(sorted(numbers), sorted(table_numbers(NEAR, plain, late)))
        plain.clear()
        self.assertEqual(derived_paper(NEAR)[1], derived_table(NEAR)[0])


if __name__ == "__main__":
    unittest.main()
