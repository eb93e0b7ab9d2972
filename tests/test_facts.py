"""Facts: the given ones, the rules, and what facts say of times ([7.1], [7.2], stage 7)."""

import itertools
import random
import unittest

from heardlate.errors import InvalidNumber, InvalidPlan, InvalidTable, InvalidTimes, UnknownName
from heardlate.facts import facts as module
from heardlate.facts.facts import derived, fact_holds, given_facts, is_fact
from heardlate.plans.plans import Plan
from heardlate.plans.times import is_times
from tests import rule_answers, time_answers
from tests.samples import EXACT, FIVE_STEPS, FORTY, NEAR, ODD, TEN_EVENTS, Case

# c begins at the start and d at v; c is heard after 4 ticks, d never.
TWO = Plan(
    9,
    events=("v", "w"),
    steps=(("c", "start", 2, 5, 4), ("d", "v", 1, 3, None), ("e", "v", 3, 3, 0)),
    bounds=(("v", "c", 1), ("w", "v", 0)),
)
RULES = ("chain", "late", "through", "early", "release")


def plain(first, second, value):
    return ("plain", first, second), value


def late(first, end, value):
    return ("late", first, end), value


class Given(Case):
    def test_modules(self):
        for name in ("given_facts", "is_fact", "derived", "fact_holds"):
            self.assertEqual(getattr(module, name).__module__, "heardlate.facts.facts")

    def test_near(self):
        self.assertEqual(
            list(given_facts(NEAR).items()),
            [
                plain("c", "c", 0), plain("c", "start", -1), plain("c", "v", 1), plain("start", "c", 5),
                plain("start", "start", 0), plain("start", "v", 10), plain("v", "c", 2), plain("v", "start", 0),
                plain("v", "v", 0),
            ],
        )

    def test_of_several_values_the_least_counts(self):
        for most, expected in ((3, 3), (5, 5), (6, 5), (-7, -7)):
            self.assertEqual(given_facts(NEAR.with_bound("start", "c", most))[("plain", "start", "c")], expected)
        for most, expected in ((0, -1), (-1, -1), (-2, -2), (999, -1)):
            self.assertEqual(given_facts(NEAR.with_bound("c", "start", most))[("plain", "c", "start")], expected)
        for most, expected in ((9, 9), (10, 10), (11, 10), (-999, -999)):
            self.assertEqual(given_facts(NEAR.with_bound("start", "v", most))[("plain", "start", "v")], expected)
        for most, expected in ((1, 0), (0, 0), (-1, -1)):
            self.assertEqual(given_facts(NEAR.with_bound("v", "start", most))[("plain", "v", "start")], expected)
        plan = TWO.with_bound("v", "d", 2).with_bound("d", "v", -3)
        self.assertEqual(given_facts(plan)[("plain", "v", "d")], 2)
        self.assertEqual(given_facts(plan)[("plain", "d", "v")], -3)

    def test_small_plans(self):
        self.assertEqual(given_facts(Plan(0)), dict([plain("start", "start", 0)]))
        self.assertEqual(
            given_facts(Plan(0, steps=(("c", "start", 2, 2, None),))),
            dict([
                plain("c", "c", 0), plain("c", "start", -2), plain("start", "c", 2), plain("start", "start", 0),
            ]),
        )

    def test_no_late_fact_and_no_bound_beside(self):
        found = given_facts(TWO)
        self.assertEqual(set(fact[0] for fact in found), {"plain"})
        self.assertEqual(len(found), 6 + 3 * 2 + 2 * 2 + 2)
        self.assertNotIn(("plain", "v", "w"), found)

    def test_against_a_plain_answer(self):
        for plan in time_answers.some_plans(200, 41, steps=4):
            self.assertEqual(list(given_facts(plan).items()), list(rule_answers.given(plan).items()))

    def test_plans_at_the_limits(self):
        plan = Plan(99, events=TEN_EVENTS, steps=FIVE_STEPS)
        self.assertEqual(len(given_facts(plan)), 16 + 2 * 5 + 2 * 10)
        self.assertEqual(list(given_facts(plan).items()), list(rule_answers.given(plan).items()))

    def test_errors(self):
        for value in ODD:
            if not isinstance(value, Plan):
                self.refuses(InvalidPlan, given_facts, value)

    def test_nothing_stays(self):
        given_facts(NEAR)[("plain", "c", "v")] = -9
        self.assertEqual(given_facts(NEAR)[("plain", "c", "v")], 1)


class IsFact(Case):
    def test_all_words_and_points(self):
        names = ("start", "v", "w", "c", "d", "e", "x", "", "V", None, 0, ("c",))
        for word in ("plain", "late", "given", "chain", "", "Plain", None, 0):
            for first, second in itertools.product(names, repeat=2):
                points = first in ("start", "v", "w", "c", "d", "e") and second in ("start", "v", "w", "c", "d", "e")
                right = points and (word == "plain" or word == "late" and second in ("c", "d", "e"))
                self.assertIs(is_fact(TWO, (word, first, second)), right)

    def test_other_values(self):
        for value in ODD + (
            ["plain", "v", "c"], ("plain", "v"), ("plain", "v", "c", "c"), (("plain", "v", "c"),), "plain",
            (("plain", "v", "c"), 3), ("v", "c"), ("late", "c"), ("plain", ["v"], "c"), ("plain", "v", ["c"]),
            (["plain"], "v", "c"), {"plain": "v", "v": 0, "c": 0},
        ):
            self.assertIs(is_fact(NEAR, value), False, value)
        self.assertIs(is_fact(Plan(0), ("plain", "start", "start")), True)
        self.assertIs(is_fact(Plan(0), ("late", "start", "start")), False)

    def test_errors(self):
        for value in ODD:
            if not isinstance(value, Plan):
                self.refuses(InvalidPlan, is_fact, value, ("plain", "start", "start"))
                self.refuses(InvalidPlan, is_fact, value, None)


class Derived(Case):
    def test_examples(self):
        self.assertEqual(derived(NEAR, "late", plain("v", "c", 2)), late("v", "c", -3))
        self.assertEqual(derived(NEAR, "release", late("v", "c", -3)), plain("v", "start", -1))
        self.assertEqual(derived(EXACT, "early", plain("c", "v", -1)), plain("start", "v", 0))
        self.assertIsNone(derived(NEAR, "early", plain("c", "v", 1)))

    def test_chain(self):
        self.assertEqual(derived(TWO, "chain", plain("v", "c", 2), plain("c", "w", -5)), plain("v", "w", -3))
        self.assertEqual(derived(TWO, "chain", plain("v", "v", 2), plain("v", "v", 3)), plain("v", "v", 5))
        self.assertEqual(derived(TWO, "chain", plain("c", "d", 2), plain("d", "c", 3)), plain("c", "c", 5))
        self.assertEqual(derived(TWO, "chain", plain("c", "d", FORTY), plain("d", "c", 1)), plain("c", "c", 10 ** 40))
        for rows in (
            (plain("c", "w", -5), plain("v", "c", 2)), (plain("v", "c", 2),), (), (plain("v", "c", 2),) * 2,
            (plain("v", "c", 2), plain("c", "w", 1), plain("w", "v", 1)), (plain("v", "c", 2), late("c", "d", 1)),
            (late("v", "c", 2), plain("c", "w", 1)), (late("v", "c", 2), late("c", "d", 1)), (late("v", "c", 2),),
        ):
            self.assertIsNone(derived(TWO, "chain", *rows), rows)

    def test_late(self):
        self.assertEqual(derived(TWO, "late", plain("v", "c", 2)), late("v", "c", -3))
        self.assertEqual(derived(TWO, "late", plain("c", "c", 0)), late("c", "c", -5))
        self.assertEqual(derived(TWO, "late", plain("start", "d", -4)), late("start", "d", -7))
        for rows in (
            (plain("c", "v", 2),), (plain("c", "start", 2),), (late("v", "c", 2),), (), (plain("v", "c", 2),) * 2,
            (plain("v", "c", 2), plain("c", "d", 2)), (plain("v", "c", 2), late("c", "d", 2)),
        ):
            self.assertIsNone(derived(TWO, "late", *rows), rows)

    def test_through(self):
        self.assertEqual(derived(TWO, "through", plain("w", "v", 2), late("v", "c", -5)), late("w", "c", -3))
        self.assertEqual(derived(TWO, "through", plain("v", "v", 2), late("v", "c", 3)), late("v", "c", 5))
        self.assertEqual(derived(TWO, "through", plain("c", "d", 2), late("d", "c", 3)), late("c", "c", 5))
        for rows in (
            (late("v", "c", -5), plain("w", "v", 2)), (plain("w", "v", 2),), (late("v", "c", 2),), (),
            (plain("w", "v", 2), plain("v", "c", 2)), (late("w", "c", 2), late("c", "d", 2)),
            (plain("w", "v", 2), late("w", "c", -5)), (plain("w", "v", 2), late("v", "c", -5), late("v", "c", -5)),
            (late("v", "c", 2), plain("c", "d", 2)),
        ):
            self.assertIsNone(derived(TWO, "through", *rows), rows)

    def test_early(self):
        for value in (*range(-9, 9), FORTY, -FORTY):
            for last in ("v", "w", "d", "e", "start"):
                expected = plain("start", last, 2 + value) if value < 4 else None
                self.assertEqual(derived(TWO, "early", plain("c", last, value)), expected)
                expected = plain("v", last, 3 + value) if value < 0 and last != "e" else None
                self.assertEqual(derived(TWO, "early", plain("e", last, value)), expected)
                expected = plain("v", last, 1 + value) if last != "d" else None
                self.assertEqual(derived(TWO, "early", plain("d", last, value)), expected)
            for end in ("d", "e"):
                expected = late("start", end, 2 + value) if value < 4 else None
                self.assertEqual(derived(TWO, "early", late("c", end, value)), expected)
            self.assertEqual(derived(TWO, "early", late("d", "c", value)), late("v", "c", 1 + value))
            for end in ("c", "d", "e"):
                self.assertIsNone(derived(TWO, "early", plain(end, end, value)))
                self.assertIsNone(derived(TWO, "early", late(end, end, value)))
            for first in ("start", "v", "w"):
                self.assertIsNone(derived(TWO, "early", plain(first, "c", value)))
                self.assertIsNone(derived(TWO, "early", late(first, "c", value)))
        for rows in ((), (plain("c", "v", 1),) * 2, (plain("c", "v", 1), plain("v", "w", 1))):
            self.assertIsNone(derived(TWO, "early", *rows))

    def test_early_with_all_delays(self):
        for delay in (0, 1, 5, 99):
            plan = NEAR.with_delay("c", delay)
            self.assertEqual(derived(plan, "early", plain("c", "v", delay - 1)), plain("start", "v", delay))
            self.assertIsNone(derived(plan, "early", plain("c", "v", delay)))
            self.assertIsNone(derived(plan, "early", plain("c", "v", delay + 1)))
        self.assertEqual(derived(NEAR.deaf(), "early", plain("c", "v", FORTY)), plain("start", "v", 10 ** 40))

    def test_release(self):
        for value in (*range(-12, 9), FORTY, -FORTY):
            for first in ("start", "v", "w", "d", "e"):
                self.assertEqual(derived(TWO, "release", late(first, "c", value)), plain(first, "start", max(value, -6)))
                expected = None if first == "d" else plain(first, "v", value)
                self.assertEqual(derived(TWO, "release", late(first, "d", value)), expected)
                expected = None if first == "e" else plain(first, "v", max(value, -3))
                self.assertEqual(derived(TWO, "release", late(first, "e", value)), expected)
            self.assertIsNone(derived(TWO, "release", late("c", "c", value)))
            self.assertIsNone(derived(TWO, "release", plain("v", "c", value)))
        for rows in ((), (late("v", "c", 1),) * 2, (late("v", "c", 1), plain("v", "w", 1))):
            self.assertIsNone(derived(TWO, "release", *rows))

    def test_all_small_rows_against_a_plain_answer(self):
        chance = random.Random(42)
        facts = rule_answers.facts_of(TWO)
        for rule in RULES:
            for fact in facts:
                for value in range(-8, 8):
                    rows = [(fact, value)]
                    self.assertEqual(derived(TWO, rule, *rows), rule_answers.gives(TWO, rule, rows))
            for one, other in itertools.product(facts, repeat=2):
                rows = [(one, chance.randint(-9, 9)), (other, chance.randint(-9, 9))]
                self.assertEqual(derived(TWO, rule, *rows), rule_answers.gives(TWO, rule, rows))
                self.assertIsNone(derived(TWO, rule, *rows, rows[0]))
            self.assertIsNone(derived(TWO, rule))

    def test_the_plan_is_checked(self):
        for value in ODD:
            if not isinstance(value, Plan):
                self.refuses(InvalidPlan, derived, value, "late", plain("v", "c", 2))
                self.refuses(InvalidPlan, derived, value, None, None)

    def test_unknown_rules(self):
        for value in ODD + ("given", "CHAIN", "chain ", "ring", ("chain",), ["late"], RULES):
            self.keeps(UnknownName, "name", value, derived, NEAR, value, plain("v", "c", 2))
            self.keeps(UnknownName, "name", value, derived, NEAR, value, None)
            self.keeps(UnknownName, "name", value, derived, NEAR, value)

    def test_rows_that_are_none(self):
        right = plain("v", "c", 2)
        for value in (
            *(value for value in ODD if value != late("v", "c", -3)),
            ("plain", "v", "c"), (("plain", "v", "x"), 2), (("late", "v", "start"), 2), (("plain", "v", "c"), 2, 2),
            [("plain", "v", "c"), 2], (("plain", "v", "c"), True), (("plain", "v", "c"), False), (("plain", "v", "c"),),
            (("plain", "v", "c"), None), (("plain", "v", "c"), "2"), (["plain", "v", "c"], 2), (right,),
        ):
            for rule in RULES:
                self.refuses(InvalidTable, derived, NEAR, rule, value)
                self.refuses(InvalidTable, derived, NEAR, rule, right, value)
                self.refuses(InvalidTable, derived, NEAR, rule, value, right)
                self.refuses(InvalidTable, derived, NEAR, rule, right, right, right, value)


class Holds(Case):
    def test_plain_facts(self):
        times = {"start": 0, "v": 3, "w": 9, "c": 5, "d": 5, "e": 6}
        for first, second in itertools.product(TWO.points, repeat=2):
            far = times[second] - times[first]
            self.assertIs(fact_holds(TWO, ("plain", first, second), far - 1, times), False)
            self.assertIs(fact_holds(TWO, ("plain", first, second), far, times), True)
            self.assertIs(fact_holds(TWO, ("plain", first, second), far + 1, times), True)
            self.assertIs(fact_holds(TWO, ("plain", first, second), FORTY, times), True)
            self.assertIs(fact_holds(TWO, ("plain", first, second), -FORTY, times), False)

    def test_late_facts(self):
        begins = {"c": "start", "d": "v", "e": "v"}
        # The duration of d is the least one, then the greatest one.
        for d in (4, 6):
            times = {"start": 0, "v": 3, "w": 9, "c": 5, "d": d, "e": 6}
            for first, end in itertools.product(TWO.points, begins):
                far = times[begins[end]] - times[first]
                self.assertIs(fact_holds(TWO, ("late", first, end), far - 1, times), False)
                self.assertIs(fact_holds(TWO, ("late", first, end), far, times), True)
                self.assertIs(fact_holds(TWO, ("late", first, end), far + 1, times), True)

    def test_equal_points(self):
        times = {"start": 0, "v": 1, "c": 2}
        for point in NEAR.points:
            for most in (-1, 0, 1):
                self.assertIs(fact_holds(NEAR, ("plain", point, point), most, times), most >= 0)
        self.assertIs(fact_holds(NEAR, ("late", "c", "c"), -2, times), True)
        self.assertIs(fact_holds(NEAR, ("late", "c", "c"), -3, times), False)

    def test_errors(self):
        times = {"start": 0, "v": 1, "c": 2}
        fact = ("plain", "v", "c")
        for value in ODD:
            if not isinstance(value, Plan):
                self.refuses(InvalidPlan, fact_holds, value, fact, 0, times)
                self.refuses(InvalidPlan, fact_holds, value, None, None, None)
            self.refuses(InvalidTable, fact_holds, NEAR, value, 0, times)
            self.refuses(InvalidTable, fact_holds, NEAR, value, None, None)
            if not isinstance(value, int) or isinstance(value, bool):
                self.keeps(InvalidNumber, "value", value, fact_holds, NEAR, fact, value, times)
                self.keeps(InvalidNumber, "value", value, fact_holds, NEAR, fact, value, None)
            if not is_times(NEAR, value):
                self.refuses(InvalidTimes, fact_holds, NEAR, fact, 0, value)
        for wrong in ({**times, "c": 6}, {**times, "v": 11}, {**times, "v": True}, {**times, "x": 1}, {"start": 0}):
            self.refuses(InvalidTimes, fact_holds, NEAR, fact, 0, wrong)
            self.refuses(InvalidTimes, fact_holds, NEAR, ("late", "v", "c"), FORTY, wrong)
        self.refuses(InvalidTable, fact_holds, NEAR, ("late", "c", "v"), 0, times)
        self.refuses(InvalidTable, fact_holds, NEAR, ("late", "c", "start"), 0, times)

    def test_nothing_changes(self):
        times = {"v": 1, "start": 0, "c": 2}
        fact_holds(NEAR, ("late", "v", "c"), 0, times)
        self.assertEqual(list(times.items()), [("v", 1), ("start", 0), ("c", 2)])


if __name__ == "__main__":
    unittest.main()
