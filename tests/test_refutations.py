"""Refutations: short lists of sums which show that no driver is safe ([9.1], stage 9)."""

import itertools
import random
import unittest

from heardlate.errors import InvalidPlan, InvalidTable
from heardlate.facts import refutations as module
from heardlate.facts.refutations import is_refutation, refutation, shortened, used_rows
from heardlate.facts.tables import derived_table
from heardlate.plans.plans import Plan
from tests import rule_answers, time_answers
from tests.game_answers import Game
from tests.samples import EXACT, FIVE_STEPS, FORTY, NEAR, ODD, RARE, TEN_EVENTS, Case

ROWS = (
    (("plain", "c", "v"), -1, "given", ()),
    (("plain", "start", "v"), 0, "early", (0,)),
    (("plain", "v", "c"), 1, "given", ()),
    (("late", "v", "c"), -4, "late", (2,)),
)
SHOWN = ("refuted", ROWS, (1, 3))
LOOP = Plan(5, events=("v", "w"), bounds=(("v", "w", 1), ("w", "v", -2)))
LOOP_ROWS = ((("plain", "v", "w"), 1, "given", ()), (("plain", "w", "v"), -2, "given", ()))


def refuted_plans(many, seed, **more):
    for plan in time_answers.some_plans(many, seed, **more):
        if not Game(plan).is_driven():
            yield plan


def moved(value, many):
    """The refutation behind so many rows that are not needed."""
    front = tuple((("plain", "start", "start"), 0, "given", ()) for _ in range(many))
    rows = tuple((*row[:3], tuple(source + many for source in row[3])) for row in value[1])
    return "refuted", front + rows, tuple(index + many for index in value[2])


class Checked(Case):
    def right(self, value, plan=EXACT):
        self.assertIs(rule_answers.is_refutation(plan, value), True)
        self.assertIs(is_refutation(plan, value), True)

    def wrong(self, rows, ring, plan=EXACT):
        self.assertIs(is_refutation(plan, ("refuted", rows, ring)), False, (rows, ring))
        self.refuses(InvalidTable, used_rows, plan, ("refuted", rows, ring))
        self.refuses(InvalidTable, shortened, plan, ("refuted", rows, ring))

    def test_modules(self):
        for name in ("refutation", "is_refutation", "used_rows", "shortened"):
            self.assertEqual(getattr(module, name).__module__, "heardlate.facts.refutations")

    def test_examples(self):
        self.assertIs(is_refutation(EXACT, SHOWN), True)
        self.assertIs(is_refutation(NEAR, SHOWN), False)
        self.assertIsNone(refutation(NEAR))

    def test_rings_turned_and_walked_twice(self):
        for ring in ((3, 1), (1, 3, 1, 3), (3, 1) * 5):
            self.right(("refuted", ROWS, ring))
        for ring in ((), (1,), (3,), (1, 1), (1, 3, 1), (3, 3), (0, 2), (2, 0), (1, 2), (0, 3), (1, 3, 3)):
            self.wrong(ROWS, ring)

    def test_sums(self):
        self.right(("refuted", LOOP_ROWS, (0, 1)), LOOP)
        for most, found in ((-3, True), (-2, True), (-1, False), (0, False)):
            plan = LOOP.with_bound("w", "v", most)
            rows = (LOOP_ROWS[0], (("plain", "w", "v"), most, "given", ()))
            self.assertIs(is_refutation(plan, ("refuted", rows, (0, 1))), found)
        # A ring of one row leads from a point to itself.
        loop = LOOP_ROWS + ((("plain", "v", "v"), -1, "chain", (0, 1)),)
        self.right(("refuted", loop, (2,)), LOOP)
        self.right(("refuted", loop, (2, 2)), LOOP)
        self.right(("refuted", loop, (2, 0, 1)), LOOP)
        self.wrong(loop, (0,), LOOP)
        self.wrong(((("plain", "v", "v"), 0, "given", ()),), (0,), LOOP)

    def test_late_rows_lead_to_the_begin(self):
        # Through the start, to which the late row leads, but not through the end c.
        rows = ROWS + ((("plain", "c", "start"), -1, "given", ()),)
        self.right(("refuted", rows, (1, 3)))
        self.wrong(rows, (3, 4))
        self.wrong(rows, (4, 1, 3))

    def test_rows_repeated_and_not_needed(self):
        self.right(("refuted", ROWS + ROWS[:1] + ROWS[2:3], (1, 3)))
        self.right(("refuted", ROWS[:1] * 3 + ((("plain", "start", "v"), 0, "early", (1,)),) + ROWS[2:3] * 2 + (
            (("late", "v", "c"), -4, "late", (5,)),
        ), (3, 6)))
        self.right(moved(SHOWN, 1))
        self.right(moved(SHOWN, 7))
        self.right(("refuted", ROWS + ((("plain", "v", "v"), 0, "chain", (2, 0)),), (1, 3)))
        more = ((("late", "c", "c"), -5, "through", (0, 3)), (("plain", "v", "start"), -1, "release", (3,)))
        self.right(("refuted", ROWS + more, (1, 3)))
        self.right(("refuted", ROWS + more, (1, 5)))

    def test_rows_in_another_order(self):
        self.right(("refuted", (ROWS[2], ROWS[3][:3] + ((0,),), ROWS[0], ROWS[1][:3] + ((2,),)), (3, 1)))
        self.wrong(ROWS[::-1], (2, 0))
        self.wrong((ROWS[1], ROWS[0], *ROWS[2:]), (0, 3))

    def test_values_that_are_not_exactly_what_the_rule_gives(self):
        for index in range(4):
            for more in (-2, -1, 1, 2, FORTY):
                row = (ROWS[index][0], ROWS[index][1] + more, *ROWS[index][2:])
                self.wrong(ROWS[:index] + (row,) + ROWS[index + 1:], (1, 3))
            for value in (True, False, None, "0", (0,), NEAR):
                row = (ROWS[index][0], value, *ROWS[index][2:])
                self.wrong(ROWS[:index] + (row,) + ROWS[index + 1:], (1, 3))

    def test_false_is_no_value(self):
        self.wrong((ROWS[0], (ROWS[1][0], False, "early", (0,)), *ROWS[2:]), (1, 3))
        plan = EXACT.with_bound("v", "c", 0).with_bound("c", "v", -1)
        for value in (0, False):
            rows = ROWS[:2] + ((("plain", "v", "c"), value, "given", ()), (("late", "v", "c"), -5, "late", (2,)))
            self.assertIs(is_refutation(plan, ("refuted", rows, (1, 3))), type(value) is int)

    def test_rules(self):
        for rule in ODD + ("chain", "late", "through", "early", "release", "given", "Given", ["early"], ("early",)):
            for index in range(4):
                if rule != ROWS[index][2]:
                    row = (*ROWS[index][:2], rule, ROWS[index][3])
                    self.wrong(ROWS[:index] + (row,) + ROWS[index + 1:], (1, 3))
            if rule != "release":
                self.wrong(ROWS + ((("plain", "v", "start"), -1, rule, (3,)),), (1, 4))
        self.right(("refuted", ROWS + ((("plain", "v", "start"), -1, "release", (3,)),), (1, 4)))

    def test_sources(self):
        for sources in (
            *(value for value in ODD if value != (0,)),
            (), (1,), (2,), (-4,), (3,), (4,), (0, 0), (0, 2), [0], 0, (False,), (True,), (None,), ("0",), ((0,),), {0: 0},
        ):
            self.wrong((ROWS[0], (*ROWS[1][:3], sources), *ROWS[2:]), (1, 3))
        for sources in ((0,), (2,), [], None, (3,), (True,), "", {}):
            self.wrong((*ROWS[:2], (*ROWS[2][:3], sources), ROWS[3]), (1, 3))
        # The first row may not be named by True, nor the row before by a negative index.
        self.wrong((ROWS[2], ROWS[0], (("plain", "start", "v"), 0, "early", (True,)), ROWS[3]), (2, 3))
        self.wrong((*ROWS[:3], (*ROWS[3][:3], (-1,))), (1, 3))
        self.wrong(((*ROWS[1][:3], (-1,)), ROWS[2], (*ROWS[3][:3], (1,)), ROWS[0]), (0, 2))
        chained = LOOP_ROWS + ((("plain", "v", "v"), -1, "chain", (1, 0)),)
        self.wrong(chained, (2,), LOOP)
        self.wrong(LOOP_ROWS + ((("plain", "v", "v"), -1, "chain", (0, True)),), (2,), LOOP)
        self.wrong(LOOP_ROWS + ((("plain", "v", "v"), -1, "chain", (False, 1)),), (2,), LOOP)

    def test_a_row_does_not_rest_on_itself(self):
        rows = ((("plain", "v", "v"), -1, "chain", (0, 0)),)
        self.wrong(rows, (0,))
        rows = ((("plain", "v", "v"), 0, "given", ()), (("plain", "v", "v"), -1, "chain", (0, 1)))
        self.wrong(rows, (1,))

    def test_facts(self):
        for fact in (
            ("plain", "v", "x"), ("late", "v", "v"), ("late", "v", "start"), ("v", "c"), ["plain", "v", "c"], None, "v",
            ("plain", "c", "c"), ("plain", "start", "start"), ("given", "v", "c"),
        ):
            for index in range(4):
                self.wrong(ROWS[:index] + ((fact, *ROWS[index][1:]),) + ROWS[index + 1:], (1, 3))
        # This fact is not given.
        self.wrong(((("late", "start", "c"), -1, "given", ()),), (0,))
        self.wrong(((("late", "v", "c"), -4, "given", ()), *ROWS[:2]), (0, 2))

    def test_ring_indices(self):
        for ring in ODD + ([1, 3], (1, 4), (1, -1), (-3, -1), (True, 3), (1, "3"), (1, None), ((1, 3),), "13"):
            self.wrong(ROWS, ring)
        rows = ((("plain", "start", "start"), 0, "given", ()), *moved(SHOWN, 1)[1][1:])
        self.right(("refuted", rows, (2, 4)))
        loop = LOOP_ROWS + ((("plain", "v", "v"), -1, "chain", (0, 1)),)
        swapped = (loop[1], loop[0], (("plain", "v", "v"), -1, "chain", (1, 0)))
        self.right(("refuted", swapped, (0, 1)), LOOP)
        self.wrong(swapped, (0, True), LOOP)
        self.wrong(swapped, (False, 1), LOOP)

    def test_other_rows(self):
        for row in ODD + (list(ROWS[0]), ROWS[0][:3], (*ROWS[0], 0), ROWS[0][0]):
            self.wrong(ROWS + (row,), (1, 3))
            self.wrong((row,) + moved(SHOWN, 1)[1][1:], (2, 4))
        for rows in ODD + (list(ROWS), dict(enumerate(ROWS))):
            self.wrong(rows, (1, 3))
        self.wrong((), (0,))
        self.wrong((), ())

    def test_other_values(self):
        known = refutation(EXACT)
        for value in ODD + (
            list(SHOWN), SHOWN[:2], (*SHOWN, 0), ("table", ROWS, (1, 3)), ("Refuted", ROWS, (1, 3)), (ROWS, (1, 3)),
            (None, ROWS, (1, 3)), ("refuted", (1, 3), ROWS), ("refuted",), {"refuted": ROWS}, (("refuted",), ROWS, (1, 3)),
        ):
            self.assertIs(is_refutation(EXACT, value), value == known)
            self.assertIs(is_refutation(NEAR, value), False)
            self.assertIs(is_refutation(Plan(0), value), False)

    def test_papers_of_other_plans(self):
        for plan in (
            EXACT.with_bound("v", "c", 2), EXACT.with_bound("v", "c", 0), EXACT.with_bound("c", "v", 0), EXACT.prompt("c"),
            EXACT.with_delay("c", 1), EXACT.deaf(), EXACT.with_span("c", 2, 5), EXACT.with_span("c", 1, 6),
            EXACT.renamed(v="w"), EXACT.renamed(c="d"), EXACT.renamed(v="c", c="v"), EXACT.with_horizon(0),
            EXACT.with_event("x"), EXACT.without("v"), EXACT.with_bound("start", "v", -1),
        ):
            found = is_refutation(plan, SHOWN)
            try:
                expected = rule_answers.is_refutation(plan, SHOWN)
            except IndexError:
                expected = False
            self.assertIs(found, expected, (plan.steps, plan.bounds))
        self.assertIs(is_refutation(EXACT.with_event("x"), SHOWN), True)
        self.assertIs(is_refutation(EXACT.with_delay("c", 1), SHOWN), True)
        self.assertIs(is_refutation(EXACT.with_span("c", 1, 6), SHOWN), False)

    def test_changed_in_every_place(self):
        chance = random.Random(101)
        right = 0
        for plan in refuted_plans(150, 102, steps=3):
            value = refutation(plan)
            rows, ring = value[1:]
            for _ in range(8):
                index = chance.randrange(len(rows))
                fact, worth, rule, sources = rows[index]
                change = chance.randrange(6)
                if change == 0:
                    worth += chance.choice((-1, 1))
                elif change == 1:
                    fact = chance.choice(rule_answers.facts_of(plan))
                elif change == 2:
                    rule = chance.choice(rule_answers.RULES + ("given",))
                elif change == 3:
                    sources = tuple(chance.randint(-1, index) for _ in sources)
                elif change == 4:
                    ring = tuple(chance.randrange(len(rows)) for _ in range(chance.randint(1, 3)))
                else:
                    ring = ring[1:] + ring[:1]
                other = ("refuted", rows[:index] + ((fact, worth, rule, sources),) + rows[index + 1:], ring)
                expected = rule_answers.is_refutation(plan, other)
                self.assertIs(is_refutation(plan, other), expected)
                right += expected
                rows, ring = value[1:]
        self.assertGreater(right, 50)

    def test_the_plan_is_checked(self):
        for value in ODD:
            if not isinstance(value, Plan):
                self.refuses(InvalidPlan, refutation, value)
                for call in (is_refutation, used_rows, shortened):
                    self.refuses(InvalidPlan, call, value, SHOWN)
                    self.refuses(InvalidPlan, call, value, None)


class Found(Case):
    def test_exact(self):
        value = refutation(EXACT)
        self.assertIs(is_refutation(EXACT, value), True)
        self.assertEqual(refutation(EXACT), value)

    def test_small_plans(self):
        self.assertIsNone(refutation(Plan(0)))
        self.assertIsNone(refutation(Plan(0, events=("v",))))
        for plan in (
            LOOP, Plan(4, events=("v",), bounds=(("v", "start", -5),)), NEAR.deaf(), NEAR.with_delay("c", 2),
            Plan(0, steps=(("c", "start", 1, 2, 0),), bounds=(("start", "c", 1),)),
            Plan(0, steps=(("c", "start", 1, 2, 0),), bounds=(("c", "start", -2),)),
            Plan(9, events=("v",), steps=(("c", "v", 1, 3, 0), ("d", "v", 1, 3, 0)), bounds=(("c", "d", 1),)),
        ):
            self.assertIs(is_refutation(plan, refutation(plan)), True)

    def test_for_each_plan_exactly_one_kind_of_paper(self):
        kinds = {True: 0, False: 0}
        for plan in itertools.chain(
            time_answers.some_plans(500, 103), time_answers.some_plans(200, 104, steps=3, horizon=4, longest=3)
        ):
            value = refutation(plan)
            driven = Game(plan).is_driven()
            self.assertEqual((value is None, derived_table(plan) is not None), (driven, driven))
            kinds[driven] += 1
            if value is not None:
                self.assertIs(rule_answers.is_refutation(plan, value), True)
                self.assertIs(is_refutation(plan, value), True)
                self.assertEqual(used_rows(plan, value), tuple(range(len(value[1]))))
        self.assertGreater(min(kinds.values()), 150)

    def test_early_with_late_facts(self):
        for plan in RARE:
            value = refutation(plan)
            self.assertEqual(value is None, Game(plan).is_driven())
            if value is not None:
                self.assertIs(rule_answers.is_refutation(plan, value), True)
                self.assertIs(is_refutation(plan, value), True)
        rules = [(row[0][0], row[2]) for plan in RARE[-3:] for row in refutation(plan)[1]]
        self.assertIn(("late", "early"), rules)

    def test_rings_with_late_rows(self):
        late = 0
        for plan in refuted_plans(400, 105, steps=3, horizon=6):
            value = refutation(plan)
            late += any(value[1][index][0][0] == "late" for index in value[2])
        self.assertGreater(late, 10)

    def test_parts_in_any_order(self):
        chance = random.Random(106)
        for plan in refuted_plans(60, 107, steps=3):
            parts = [tuple(chance.sample(part, len(part))) for part in (plan.events, plan.steps, plan.bounds)]
            again = Plan(plan.horizon, events=parts[0], steps=parts[1], bounds=parts[2])
            self.assertEqual(refutation(again), refutation(plan))
            self.assertIs(is_refutation(again, refutation(plan)), True)

    def test_plans_at_the_limits(self):
        plan = Plan(99, events=TEN_EVENTS, steps=FIVE_STEPS)
        # Each event is at least ten ticks behind the next one.
        bounds = tuple((one, other, -10) for one, other in zip(TEN_EVENTS, TEN_EVENTS[1:]))
        self.assertIsNone(refutation(Plan(90, events=TEN_EVENTS, steps=FIVE_STEPS, bounds=bounds)))
        for wrong in (
            plan.with_bound("p", "a", -1).with_bound("a", "p", 1), plan.with_bound("start", "t", 1),
            Plan(89, events=TEN_EVENTS, steps=FIVE_STEPS, bounds=bounds),
            Plan(99, events=TEN_EVENTS, steps=FIVE_STEPS, bounds=bounds + (("start", "a", 89),)),
        ):
            self.assertIs(is_refutation(wrong, refutation(wrong)), True)


class Shortened(Case):
    def test_used_rows(self):
        self.assertEqual(used_rows(EXACT, SHOWN), (0, 1, 2, 3))
        self.assertEqual(used_rows(EXACT, moved(SHOWN, 2)), (2, 3, 4, 5))
        self.assertEqual(used_rows(EXACT, ("refuted", ROWS + ROWS[:1], (3, 1, 3, 1))), (0, 1, 2, 3))
        rows = LOOP_ROWS + ((("plain", "v", "v"), -1, "chain", (0, 1)), LOOP_ROWS[0])
        self.assertEqual(used_rows(LOOP, ("refuted", rows, (0, 1))), (0, 1))
        self.assertEqual(used_rows(LOOP, ("refuted", rows, (2,))), (0, 1, 2))
        self.assertEqual(used_rows(LOOP, ("refuted", rows, (3, 1))), (1, 3))
        self.assertEqual(used_rows(LOOP, ("refuted", rows, (2, 3, 1))), (0, 1, 2, 3))

    def test_shortened(self):
        self.assertEqual(shortened(EXACT, SHOWN), SHOWN)
        self.assertEqual(shortened(EXACT, moved(SHOWN, 9)), SHOWN)
        self.assertEqual(shortened(EXACT, ("refuted", ROWS + ROWS, (3, 1))), ("refuted", ROWS, (3, 1)))
        rows = LOOP_ROWS + ((("plain", "v", "v"), -1, "chain", (0, 1)), LOOP_ROWS[0])
        self.assertEqual(shortened(LOOP, ("refuted", rows, (3, 1))), ("refuted", LOOP_ROWS[::-1], (1, 0)))
        # Rows of which one is like another one stay, if both are used.
        self.assertEqual(shortened(LOOP, ("refuted", rows, (2, 3, 1))), ("refuted", rows, (2, 3, 1)))

    def test_with_rows_put_in_anywhere(self):
        chance = random.Random(108)
        for plan in refuted_plans(150, 109, steps=3):
            value = refutation(plan)
            rows, ring = list(value[1]), list(value[2])
            for _ in range(5):
                at = chance.randint(0, len(rows))
                rows = [(*row[:3], tuple(one + (one >= at) for one in row[3])) for row in rows]
                ring = [one + (one >= at) for one in ring]
                fact = chance.choice(list(rule_answers.given(plan)))
                rows.insert(at, (fact, rule_answers.given(plan)[fact], "given", ()))
            longer = ("refuted", tuple(rows), tuple(ring))
            self.assertIs(is_refutation(plan, longer), True)
            self.assertEqual(shortened(plan, longer), value)
            self.assertEqual([longer[1][index][:3] for index in used_rows(plan, longer)], [row[:3] for row in value[1]])

    def test_a_long_chain(self):
        rows = list(LOOP_ROWS) + [(("plain", "v", "v"), -1, "chain", (0, 1))]
        for index in range(3, 6000):
            rows.append((("plain", "v", "v"), -1 - (index - 2), "chain", (2, index - 1)))
        value = ("refuted", tuple(rows), (5999,))
        self.assertIs(is_refutation(LOOP, value), True)
        self.assertEqual(used_rows(LOOP, value), tuple(range(6000)))
        self.assertEqual(shortened(LOOP, value), value)
        value = ("refuted", tuple(rows), (3000,))
        self.assertEqual(used_rows(LOOP, value), tuple(range(3001)))
        rows[4000] = (("plain", "v", "v"), 0, *rows[4000][2:])
        self.assertIs(is_refutation(LOOP, ("refuted", tuple(rows), (5999,))), False)

    def test_errors(self):
        known = refutation(EXACT)
        for call in (used_rows, shortened):
            for value in ODD + (("refuted", ROWS, (1,)), list(SHOWN), ("refuted", ROWS[:3], (1, 3))):
                if value != known:
                    self.refuses(InvalidTable, call, EXACT, value)
                self.refuses(InvalidTable, call, NEAR, value)
            self.refuses(InvalidTable, call, NEAR, SHOWN)


if __name__ == "__main__":
    unittest.main()
