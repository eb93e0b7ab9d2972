"""Durations: which values are some, how many there are, and all of them in order ([0.7], [0.12], stage 3)."""

import itertools
import unittest

from heardlate.errors import InvalidPlan, TooMany
from heardlate.plans import durations as module
from heardlate.plans.durations import MAX_CHOICES, all_durations, count_durations, extremes, is_durations
from heardlate.plans.plans import Plan
from tests import time_answers
from tests.samples import FORTY, NEAR, ODD, Case

TWO = Plan(5, events=("v",), steps=(("d", "start", 2, 2, None), ("b", "v", 3, 5, 0)))
THREE = Plan(0, steps=(("z", "start", 98, 99, 0), ("a", "start", 1, 3, None), ("m", "start", 7, 7, 99)))


def spans(*longest, least=1):
    """A plan with steps that take from one tick, or from least, to these durations."""
    steps = tuple((end, "start", least, most, 0) for end, most in zip("pqrst", longest))
    return Plan(9, steps=steps)


def refused_plans():
    return [value for value in ODD if value is not NEAR] + [{"horizon": 1}, NEAR.bounds, str(NEAR), NEAR.steps]


class AreDurations(Case):
    def test_durations(self):
        for value in ({"b": 3, "d": 2}, {"d": 2, "b": 3}, {"b": 4, "d": 2}, {"d": 2, "b": 5}):
            self.assertIs(is_durations(TWO, value), True)
        self.assertIs(is_durations(Plan(0), {}), True)
        self.assertIs(is_durations(Plan(3, events=("v",)), {}), True)
        self.assertIs(is_durations(spans(99), {"p": 99}), True)

    def test_ends_missing_or_unknown(self):
        for value in (
            {}, {"b": 3}, {"d": 2}, {"b": 3, "d": 2, "c": 1}, {"b": 3, "d": 2, "v": 0}, {"b": 3, "d": 2, "start": 0},
            {"b": 3, "c": 2}, {"b": 3, "start": 2}, {"b": 3, "v": 2}, {"b": 3, "d": 2, None: 2}, {"b": 3, 0: 2},
            {("b",): 3, ("d",): 2}, {"B": 3, "D": 2}, {3: "b", 2: "d"},
        ):
            self.assertIs(is_durations(TWO, value), False, value)
        for value in ({"p": 1}, {"start": 0}, {None: None}):
            self.assertIs(is_durations(Plan(0), value), False, value)
        self.assertIs(is_durations(Plan(3, events=("v",)), {"v": 0}), False)

    def test_numbers_outside_the_span_or_none(self):
        for number in (2, 6, 0, -3, 100, FORTY, -FORTY, None, True, False, "3", "", (3,), [3], {"b": 3}, (), NEAR):
            self.assertIs(is_durations(TWO, {"b": number, "d": 2}), False, number)
            self.assertIs(is_durations(TWO, {"d": 2, "b": number}), False, number)
        for number in (1, 3, True):
            self.assertIs(is_durations(TWO, {"b": 3, "d": number}), False, number)
        for number in (True, False, "1"):
            self.assertIs(is_durations(spans(5), {"p": number}), False, number)
        self.assertIs(is_durations(spans(5), {"p": 1}), True)

    def test_other_values(self):
        for value in ODD + (["b", "d"], ("b", "d"), (("b", 3), ("d", 2)), [("b", 3), ("d", 2)], "bd", all_durations):
            self.assertIs(is_durations(TWO, value), False)
        self.assertIs(is_durations(Plan(0), ()), False)
        self.assertIs(is_durations(Plan(0), []), False)
        self.assertIs(is_durations(Plan(0), None), False)

    def test_all_small_ones(self):
        right = [{"b": b, "d": 2} for b in (3, 4, 5)]
        for b, d in itertools.product(range(-1, 8), repeat=2):
            value = {"d": d, "b": b}
            self.assertIs(is_durations(TWO, value), value in right)

    def test_the_plan_is_checked(self):
        for value in refused_plans():
            self.refuses(InvalidPlan, is_durations, value, {})
            self.refuses(InvalidPlan, is_durations, value, None)

    def test_nothing_changes(self):
        value = {"d": 2, "b": 4}
        self.assertIs(is_durations(TWO, value), True)
        self.assertEqual(list(value.items()), [("d", 2), ("b", 4)])


class Counted(Case):
    def test_counts(self):
        for plan, many in (
            (NEAR, 5), (TWO, 3), (THREE, 6), (Plan(0), 1), (Plan(9, events=("v", "w")), 1), (spans(1), 1),
            (spans(99, 99), 9801), (spans(99, 99, 99, 99, 99), 99 ** 5), (spans(50, 50, 2), 5000),
            (spans(2, 41, 61), 5002), (spans(9, 9, least=9), 1), (spans(9, 9, least=8), 4),
        ):
            self.assertEqual(count_durations(plan), many)
            self.assertIs(type(count_durations(plan)), int)

    def test_the_plan_is_checked(self):
        for value in refused_plans():
            self.refuses(InvalidPlan, count_durations, value)


class AllOfThem(Case):
    def test_constant(self):
        self.assertEqual(MAX_CHOICES, 5000)
        for made in (is_durations, count_durations, all_durations, extremes):
            self.assertEqual(made.__module__, module.__name__)

    def test_examples(self):
        self.assertEqual(list(all_durations(NEAR)), [{"c": 1}, {"c": 2}, {"c": 3}, {"c": 4}, {"c": 5}])
        self.assertEqual(list(extremes(NEAR)), [{"c": 1}, {"c": 5}])

    def test_the_first_end_changes_most_slowly(self):
        self.assertEqual(list(all_durations(TWO)), [{"b": 3, "d": 2}, {"b": 4, "d": 2}, {"b": 5, "d": 2}])
        self.assertEqual(
            list(all_durations(THREE)), [{"a": a, "m": 7, "z": z} for a, z in itertools.product((1, 2, 3), (98, 99))]
        )

    def test_no_steps(self):
        for plan in (Plan(0), Plan(99, events=("v", "w"), bounds=(("v", "w", -3),))):
            self.assertEqual(list(all_durations(plan)), [{}])
            self.assertEqual(list(extremes(plan)), [{}])

    def test_the_ends_ascend(self):
        for call in (all_durations, extremes):
            for durations in call(THREE):
                self.assertEqual(list(durations), ["a", "m", "z"])

    def test_extremes(self):
        self.assertEqual(list(extremes(TWO)), [{"b": 3, "d": 2}, {"b": 5, "d": 2}])
        self.assertEqual(
            list(extremes(THREE)), [{"a": a, "m": 7, "z": z} for a, z in itertools.product((1, 3), (98, 99))]
        )
        self.assertEqual(list(extremes(spans(1, 1, 1))), [{"p": 1, "q": 1, "r": 1}])
        many = list(extremes(spans(99, 99, 99, 99, 99)))
        self.assertEqual(many, [dict(zip("pqrst", taken)) for taken in itertools.product((1, 99), repeat=5)])

    def test_extremes_of_all_spans(self):
        for least, most in itertools.combinations(range(1, 100), 2):
            self.assertEqual(list(extremes(spans(most, least=least))), [{"p": least}, {"p": most}])

    def test_against_a_plain_answer(self):
        for plan in time_answers.some_plans(150, 31, steps=4):
            found = list(all_durations(plan))
            self.assertEqual(found, time_answers.durations_in_order(plan))
            self.assertEqual(len(found), count_durations(plan))
            self.assertTrue(all(is_durations(plan, durations) for durations in found))
            spread = {step[0]: step[2:4] for step in plan.steps}
            self.assertEqual(
                list(extremes(plan)), [one for one in found if all(one[end] in spread[end] for end in one)]
            )

    def test_the_limit(self):
        most = list(all_durations(spans(50, 50, 2)))
        self.assertEqual(len(most), 5000)
        self.assertEqual(most[0], {"p": 1, "q": 1, "r": 1})
        self.assertEqual(most[101], {"p": 2, "q": 1, "r": 2})
        self.assertEqual(most[-1], {"p": 50, "q": 50, "r": 2})
        for plan in (spans(2, 41, 61), spans(99, 99), spans(99, 99, 99, 99, 99)):
            self.keeps(TooMany, "limit", 5000, next, all_durations(plan))

    def test_errors_come_with_the_first_result(self):
        for call in (all_durations, extremes):
            for value in refused_plans():
                begun = call(value)
                self.refuses(InvalidPlan, next, begun)
        begun = all_durations(spans(99, 99))
        self.keeps(TooMany, "limit", 5000, list, begun)

    def test_some_results(self):
        for call in (all_durations, extremes):
            begun = call(THREE)
            self.assertEqual(next(begun), {"a": 1, "m": 7, "z": 98})
            self.assertEqual(next(begun), {"a": 1, "m": 7, "z": 99})
            self.assertEqual(len(list(begun)), len(list(call(THREE))) - 2)
            self.assertEqual(list(begun), [])
        self.assertEqual(next(all_durations(spans(50, 50, 2))), {"p": 1, "q": 1, "r": 1})

    def test_two_side_by_side(self):
        for call in (all_durations, extremes):
            plain = list(call(THREE))
            one, other = call(THREE), call(THREE)
            self.assertIsNot(one, other)
            self.assertEqual([next(one), next(one), next(other)], [plain[0], plain[1], plain[0]])
            third = call(TWO)
            self.assertEqual([next(third), next(other), next(one)], [{"b": 3, "d": 2}, plain[1], plain[2]])
            self.assertEqual([list(one), list(other)], [plain[3:], plain[2:]])

    def test_results_are_independent(self):
        for call in (all_durations, extremes):
            plain = list(call(THREE))
            seen = []
            for durations in call(THREE):
                seen.append(dict(durations))
                durations["a"] = 77
                durations["x"] = 1
                del durations["z"]
            self.assertEqual(seen, plain)
            self.assertEqual(list(call(THREE)), plain)
        self.assertEqual(THREE.step("a"), ("a", "start", 1, 3, None))


if __name__ == "__main__":
    unittest.main()
