"""Two plans: "|" and within (stage 2)."""

import unittest

from heardlate.errors import InvalidOperation, InvalidPlan, TooMany
from heardlate.plans.plans import Plan
from tests.samples import EXACT, FIVE_STEPS, NEAR, ODD, TEN_EVENTS, Case

LEFT = Plan(
    9,
    events=("a", "b"),
    steps=(("c", "a", 1, 2, 0), ("d", "b", 3, 4, None)),
    bounds=(("a", "b", 5), ("b", "a", 0), ("c", "d", -3)),
)
RIGHT = Plan(
    9,
    events=("b", "e"),
    steps=(("d", "b", 3, 4, None), ("f", "e", 6, 7, 8)),
    bounds=(("b", "d", 2), ("e", "b", 1)),
)
SIX = tuple(Plan(3, steps=((end, "start", 1, 1, 0),)) for end in "klmnop")


class Joined(Case):
    def test_example(self):
        self.assertEqual((NEAR | EXACT).bounds, (("c", "v", -1), ("v", "c", 1)))

    def test_the_parts_of_both(self):
        for plan in (LEFT | RIGHT, RIGHT | LEFT):
            self.assertEqual(plan.horizon, 9)
            self.assertEqual(plan.events, ("a", "b", "e"))
            self.assertEqual(plan.steps, (LEFT.steps[0], LEFT.steps[1], RIGHT.steps[1]))
            self.assertEqual(plan.bounds, tuple(sorted(LEFT.bounds + RIGHT.bounds)))
        self.assertEqual(LEFT | LEFT, LEFT)
        self.assertEqual(LEFT | Plan(9), LEFT)
        self.assertEqual(Plan(9) | LEFT, LEFT)

    def test_the_lesser_number_stays(self):
        one = LEFT.with_bound("a", "b", -4).with_bound("c", "d", 7)
        for plan in (LEFT | one, one | LEFT):
            self.assertEqual(plan.bounds, (("a", "b", -4), ("b", "a", 0), ("c", "d", -3)))

    def test_a_bound_of_a_pair_and_its_reverse_both_stay(self):
        one = Plan(1, events=("a", "b"), bounds=(("a", "b", 3),))
        other = Plan(1, events=("a", "b"), bounds=(("b", "a", -5),))
        self.assertEqual((one | other).bounds, (("a", "b", 3), ("b", "a", -5)))

    def test_neither_plan_changes(self):
        before = [(plan.events, plan.steps, plan.bounds) for plan in (LEFT, RIGHT)]
        self.assertIsInstance(LEFT | RIGHT, Plan)
        self.assertEqual([(plan.events, plan.steps, plan.bounds) for plan in (LEFT, RIGHT)], before)

    def refused(self, one, other):
        for first, second in ((one, other), (other, one)):
            self.refuses(InvalidOperation, lambda: first | second)

    def test_other_values(self):
        for value in ODD + (LEFT.bounds, {"horizon": 9}, {"a": 1}, [LEFT]):
            if value is not NEAR:
                self.refuses(InvalidOperation, lambda: LEFT | value)

    def test_the_horizons_are_equal(self):
        self.refused(LEFT, LEFT.with_horizon(8))
        self.refused(Plan(0), Plan(1))

    def test_no_event_is_an_end(self):
        self.refused(LEFT, Plan(9, events=("c",)))
        self.refused(LEFT, Plan(9, events=("x", "d")))
        self.refused(LEFT, Plan(9, steps=(("a", "start", 1, 1, 0),)))

    def test_steps_with_one_end_are_equal(self):
        for step in (
            ("c", "a", 1, 2, None), ("c", "a", 1, 2, 1), ("c", "a", 1, 3, 0), ("c", "a", 2, 2, 0), ("c", "b", 1, 2, 0),
            ("d", "b", 3, 4, 0), ("c", "start", 1, 2, 0),
        ):
            self.refused(LEFT, Plan(9, events=("a", "b"), steps=(step,)))

    def test_too_many(self):
        full = Plan(9, events=TEN_EVENTS, steps=FIVE_STEPS)
        self.assertEqual(full | full, full)
        more = Plan(9, events=("k",))
        sixth = Plan(9, steps=(("u", "start", 1, 1, 0),))
        for one, other, limit in ((full, more, 10), (full, sixth, 5), (full, more | sixth, 10)):
            self.keeps(TooMany, "limit", limit, lambda: one | other)
            self.keeps(TooMany, "limit", limit, lambda: other | one)
        self.assertEqual(len(SIX[0] | SIX[1] | SIX[2] | SIX[3] | SIX[4]), 6)
        self.keeps(TooMany, "limit", 5, lambda: SIX[0] | SIX[1] | SIX[2] | SIX[3] | SIX[4] | SIX[5])

    def test_order_of_errors(self):
        full = Plan(9, events=TEN_EVENTS, steps=FIVE_STEPS)
        self.refused(full, Plan(9, events=("k", "p")))
        self.refused(full, Plan(8, events=("k",)))
        self.refused(full, Plan(9, events=("k",), steps=(("p", "start", 1, 2, 1),)))
        self.refused(full, Plan(9, steps=(("u", "start", 1, 1, 0), ("p", "start", 1, 2, None))))
        self.refused(full, Plan(9, events=("k",), steps=(("a", "start", 1, 2, 0), ("u", "start", 1, 2, 0))))


class Within(Case):
    def both(self, plan, other, forth, back):
        self.assertIs(plan.within(other), forth)
        self.assertIs(other.within(plan), back)

    def test_examples(self):
        self.both(EXACT, NEAR, True, False)

    def test_itself(self):
        for plan in (NEAR, EXACT, LEFT, RIGHT, Plan(0), NEAR.deaf()):
            self.assertIs(plan.within(plan), True)
        self.assertIs(NEAR.within(Plan(10, events=NEAR.events, steps=NEAR.steps, bounds=NEAR.bounds)), True)

    def test_horizon(self):
        self.both(LEFT, LEFT.with_horizon(10), True, False)
        self.both(LEFT, LEFT.with_horizon(99), True, False)

    def test_points(self):
        self.both(LEFT, LEFT.with_event("z"), False, False)
        self.both(LEFT, LEFT.with_step("z", "start", 1, 1, 0), False, False)
        self.both(LEFT, LEFT.renamed(a="z"), False, False)
        self.both(LEFT, LEFT.renamed(c="z"), False, False)
        self.both(Plan(9, events=("a", "b")), Plan(9, events=("a",)), False, False)
        self.both(
            Plan(9, events=("a", "b"), steps=(("c", "a", 1, 1, 0),)),
            Plan(9, events=("a",), steps=(("b", "a", 1, 1, 0), ("c", "a", 1, 1, 0))),
            False,
            False,
        )
        self.both(NEAR, NEAR.renamed(v="c", c="v"), False, False)

    def test_begins(self):
        self.both(LEFT, LEFT.with_step("c", "b", 1, 2, 0), False, False)
        self.both(LEFT, LEFT.with_step("c", "start", 1, 2, 0), False, False)

    def test_spans(self):
        self.both(LEFT, LEFT.with_span("d", 3, 3), True, False)
        self.both(LEFT, LEFT.with_span("d", 4, 4), True, False)
        self.both(LEFT, LEFT.with_span("d", 2, 4), False, True)
        self.both(LEFT, LEFT.with_span("d", 3, 5), False, True)
        self.both(LEFT, LEFT.with_span("d", 4, 5), False, False)
        self.both(LEFT, LEFT.with_span("d", 1, 3), False, False)
        self.both(LEFT, LEFT.with_span("d", 3, 3).with_span("c", 1, 3), False, False)

    def test_delays(self):
        heard = LEFT.with_delay("c", 5)
        self.both(heard, heard.with_delay("c", 4), True, False)
        self.both(heard, heard.with_delay("c", 0), True, False)
        self.both(heard, heard.with_delay("c", None), False, True)
        self.both(heard, heard.with_delay("c", 6), False, True)
        self.both(LEFT, LEFT.with_delay("d", 99), True, False)
        self.both(LEFT, LEFT.with_delay("d", 0), True, False)
        self.both(LEFT, LEFT.with_delay("d", 0).with_delay("c", 1), False, False)
        self.assertIs(LEFT.deaf().within(LEFT.deaf()), True)

    def test_bounds(self):
        self.both(LEFT, LEFT.with_bound("a", "b", 6), True, False)
        self.both(LEFT, LEFT.with_bound("a", "b", 4), False, True)
        self.both(LEFT, LEFT.without_bound("b", "a"), True, False)
        self.both(LEFT, LEFT.with_bound("start", "a", 999), False, True)
        self.both(LEFT, LEFT.without_bound("a", "b").with_bound("b", "a", -1), False, False)
        self.both(LEFT, Plan(9, events=LEFT.events, steps=LEFT.steps), True, False)
        self.both(LEFT.without_bound("a", "b"), LEFT.without_bound("b", "a"), False, False)
        self.both(LEFT.with_bound("c", "d", -3), LEFT.with_bound("c", "d", -2), True, False)

    def test_errors(self):
        for value in ODD:
            if value is not NEAR:
                self.refuses(InvalidPlan, LEFT.within, value)
        self.assertIs(LEFT.within(NEAR), False)


if __name__ == "__main__":
    unittest.main()
