"""Margins: values of questions, the strictest ones, and papers that show them ([14.1], stage 14)."""

import random
import unittest

from heardlate.errors import InvalidNumber, InvalidOperation, InvalidPlan, Refuted, UnknownName
from heardlate.facts.decided import is_driven, paper_of
from heardlate.facts.refutations import is_refutation
from heardlate.facts.tables import is_table_paper
from heardlate.margins import margins as module
from heardlate.margins.margins import changed, is_margin_paper, latest_time, margin, margin_paper, promised_end
from heardlate.plans.plans import Plan
from tests import margin_answers, time_answers
from tests.samples import EXACT, FIVE_STEPS, NEAR, ODD, OTHER, RARE, TEN_EVENTS, Case

QUESTIONS = (("delay", "c"), ("least", "c"), ("most", "c"), ("bound", "v", "c"), ("bound", "start", "v"), ("all",))
# Those of which the margin for NEAR is not the strictest value.
INNER = tuple(question for question in QUESTIONS if question != ("least", "c"))
NO_QUESTIONS = ODD + (
    ("delay",), ("delay", "v"), ("delay", "start"), ("delay", "x"), ("delay", "c", "c"), ("delay", "c", 1), ["delay", "c"],
    ("least",), ("least", "v"), ("most", None), ("most", ["c"]), ("most", ("c",)), ("Most", "c"), ("bound",),
    ("bound", "v"), ("bound", "v", "v"), ("bound", "v", "x"), ("bound", "x", "v"), ("bound", "v", "c", 2), ["bound", "v", "c"],
    ("bound", "start", "start"), ("bound", ["v"], "c"), ("all", "c"), ("all", "v", "c"), ["all"], "all", ("All",), "delay",
    ("span", "c"), ("horizon",), (("all",),), (None, "c"), (NEAR, "c"), ("v", "c", 2), ("c",), ("c", "delay"),
)
# The end c may be heard late, d may not, and some bounds are loose.
TWO = Plan(
    20,
    events=("v", "w"),
    steps=(("c", "start", 2, 6, 1), ("d", "v", 1, 3, 0)),
    bounds=(("c", "v", 4), ("v", "w", 3), ("w", "d", 2), ("start", "w", 15)),
)


def mildest(plan, question):
    return changed(plan, question, margin_answers.values_of(plan, question)[0])


class Values(Case):
    def test_modules(self):
        for name in ("changed", "margin", "margin_paper", "is_margin_paper", "latest_time", "promised_end"):
            self.assertEqual(getattr(module, name).__module__, "heardlate.margins.margins")

    def test_delays(self):
        for number in (0, 1, 97, 98, None):
            self.assertEqual(changed(NEAR, ("delay", "c"), number), NEAR.with_delay("c", number))
        for number in (-1, 99, 100, True, False):
            self.keeps(InvalidNumber, "value", number, changed, NEAR, ("delay", "c"), number)

    def test_least_durations(self):
        for number in (1, 2, 5):
            self.assertEqual(changed(NEAR, ("least", "c"), number).step("c"), ("c", "start", number, 5, 0))
        for number in (0, 6, -1, 99, True, None):
            self.keeps(InvalidNumber, "value", number, changed, NEAR, ("least", "c"), number)

    def test_greatest_durations(self):
        plan = NEAR.with_span("c", 2, 5)
        for number in (2, 3, 5, 6, 99):
            self.assertEqual(changed(plan, ("most", "c"), number).step("c"), ("c", "start", 2, number, 0))
        for number in (1, 100, 0, -2, True, None):
            self.keeps(InvalidNumber, "value", number, changed, plan, ("most", "c"), number)

    def test_bounds(self):
        for number in (999, 998, 2, 1, 0, -1, -998, -999):
            self.assertEqual(changed(NEAR, ("bound", "v", "c"), number).bounds, (("c", "v", 1), ("v", "c", number)))
            bounds = changed(NEAR, ("bound", "start", "v"), number).bounds
            self.assertEqual(bounds, (("c", "v", 1), ("start", "v", number), ("v", "c", 2)))
        for number in (1000, -1000, True, False, None):
            self.keeps(InvalidNumber, "value", number, changed, NEAR, ("bound", "v", "c"), number)
            self.keeps(InvalidNumber, "value", number, changed, NEAR, ("bound", "start", "c"), number)

    def test_all_points(self):
        plan = NEAR.with_bound("start", "v", 7)
        for number, bounds in (
            (198, (("start", "c", 198), ("start", "v", 7))), (8, (("start", "c", 8), ("start", "v", 7))),
            (7, (("start", "c", 7), ("start", "v", 7))), (6, (("start", "c", 6), ("start", "v", 6))),
            (0, (("start", "c", 0), ("start", "v", 0))),
        ):
            found = changed(plan, ("all",), number)
            self.assertEqual(found.bounds, tuple(sorted(NEAR.bounds + bounds)))
            self.assertEqual((found.horizon, found.events, found.steps), (plan.horizon, plan.events, plan.steps))
        for number in (199, -1, True, False, None):
            self.keeps(InvalidNumber, "value", number, changed, plan, ("all",), number)
        self.assertEqual(changed(Plan(3), ("all",), 0), Plan(3))
        self.assertEqual(changed(NEAR.with_bound("start", "v", -3), ("all",), 0).bound("start", "v"), -3)

    def test_each_value_against_a_plan_made_anew(self):
        for plan in (NEAR, TWO, EXACT):
            for question in margin_answers.questions_of(plan):
                for number in margin_answers.values_of(plan, question)[::7]:
                    self.assertEqual(changed(plan, question, number), margin_answers.changed(plan, question, number))

    def test_numbers_are_checked(self):
        for question in QUESTIONS:
            values = margin_answers.values_of(NEAR, question)
            for number in ODD:
                if type(number) in (int, type(None)) and number in values:
                    self.assertEqual(changed(NEAR, question, number), margin_answers.changed(NEAR, question, number))
                else:
                    self.keeps(InvalidNumber, "value", number, changed, NEAR, question, number)

    def test_the_plan_stays(self):
        before = margin_answers.made(NEAR)
        for question in QUESTIONS:
            changed(NEAR, question, margin_answers.values_of(NEAR, question)[-1])
            margin_paper(NEAR, question)
        self.assertEqual(NEAR, before)


class Errors(Case):
    def test_the_plan_is_checked_first(self):
        for value in ODD:
            if not isinstance(value, Plan):
                for question in (("all",), ("delay", "c"), None, ("delay", "x")):
                    self.refuses(InvalidPlan, changed, value, question, 1)
                    self.refuses(InvalidPlan, changed, value, question, None)
                    self.refuses(InvalidPlan, margin, value, question)
                    self.refuses(InvalidPlan, margin_paper, value, question)
                    self.refuses(InvalidPlan, is_margin_paper, value, question, None)
                for point in ("v", "start", "x", None):
                    self.refuses(InvalidPlan, latest_time, value, point)
                self.refuses(InvalidPlan, promised_end, value)

    def test_questions_come_next(self):
        for plan in (NEAR, EXACT.with_bound("v", "start", -50)):
            for question in NO_QUESTIONS:
                for number in (1, None, True, 5000):
                    self.refuses(InvalidOperation, changed, plan, question, number)
                self.refuses(InvalidOperation, margin, plan, question)
                self.refuses(InvalidOperation, margin_paper, plan, question)
                self.refuses(InvalidOperation, is_margin_paper, plan, question, None)
                self.refuses(InvalidOperation, is_margin_paper, plan, question, margin_paper(NEAR, ("all",)))

    def test_refuted_with_the_mildest_value(self):
        late = NEAR.with_bound("v", "start", -11)
        for question in QUESTIONS:
            for call in (margin, margin_paper):
                paper = self.refuses(Refuted, call, late, question).paper
                self.assertIs(is_refutation(mildest(late, question), paper), True)
            for value in (None, margin_paper(NEAR, question), (198, paper_of(NEAR), paper), (0, paper, paper)):
                self.assertIs(is_margin_paper(late, question, value), False)
        paper = self.refuses(Refuted, promised_end, late).paper
        self.assertIs(is_refutation(mildest(late, ("all",)), paper), True)
        for point in ("v", "c"):
            paper = self.refuses(Refuted, latest_time, late, point).paper
            self.assertIs(is_refutation(mildest(late, ("bound", "start", point)), paper), True)

    def test_what_the_mildest_value_takes_out_does_not_count(self):
        self.assertEqual(margin(NEAR.with_bound("v", "start", -11), ("bound", "v", "start")), -2)
        self.assertEqual(latest_time(NEAR.with_bound("start", "v", -5), "v"), 3)
        self.assertEqual(margin(NEAR.with_delay("c", None), ("delay", "c")), 1)
        self.refuses(Refuted, promised_end, NEAR.with_bound("start", "v", -5))

    def test_points(self):
        for plan in (NEAR, NEAR.with_bound("v", "start", -11)):
            for value in ODD + ("x", "V", ("v",), ["v"]):
                if value != "start":
                    self.keeps(UnknownName, "name", value, latest_time, plan, value)
            self.refuses(InvalidOperation, latest_time, plan, "start")
        self.keeps(UnknownName, "name", "x", latest_time, NEAR, "x")


class Margins(Case):
    def test_examples(self):
        self.assertEqual(
            [margin(NEAR, ("delay", "c")), margin(NEAR, ("bound", "c", "v")), margin(NEAR, ("most", "c"))], [1, 0, 12],
        )
        self.assertEqual([latest_time(NEAR, "v"), promised_end(NEAR)], [3, 5])

    def test_exact(self):
        self.refuses(Refuted, margin, EXACT, ("delay", "c"))
        self.assertEqual(margin(EXACT, ("least", "c")), 5)
        self.assertEqual(margin(EXACT, ("most", "c")), 1)
        self.assertEqual(margin(EXACT, ("bound", "v", "c")), 5)
        self.assertEqual(margin(EXACT, ("bound", "c", "v")), 0)

    def test_the_strictest_values(self):
        loose = Plan(99, events=("v",), steps=(("c", "start", 3, 5, 1),))
        self.assertIsNone(margin(loose, ("delay", "c")))
        self.assertEqual(margin(loose, ("least", "c")), 1)
        self.assertEqual(margin(loose, ("most", "c")), 99)
        self.assertEqual(margin(loose, ("bound", "start", "v")), 0)
        self.assertEqual(margin(loose, ("bound", "start", "c")), 5)
        self.assertEqual(margin(loose, ("bound", "v", "c")), -94)
        self.assertEqual(promised_end(Plan(9, events=("v", "w"))), 0)
        self.assertEqual(promised_end(Plan(0)), 0)
        for question, number in ((("delay", "c"), None), (("least", "c"), 1), (("most", "c"), 99)):
            found, paper, other = margin_paper(loose, question)
            self.assertEqual((found, other), (number, None))
            self.assertIs(is_table_paper(changed(loose, question, number), paper), True)
            self.assertIs(is_margin_paper(loose, question, (found, paper, None)), True)
            self.assertIs(is_margin_paper(loose, question, (found, paper, paper_of(EXACT))), False)
            self.assertIs(is_margin_paper(loose, question, (found, paper, False)), False)
        self.assertEqual(margin_paper(Plan(0), ("all",)), (0, paper_of(Plan(0)), None))
        self.assertEqual(margin_paper(Plan(0, events=("v",)), ("all",))[::2], (0, None))

    def test_a_late_delay(self):
        plan = Plan(99, events=("v",), steps=(("c", "start", 1, 1, 0), ("d", "start", 1, 99, 0)), bounds=(("v", "d", 0),))
        self.assertEqual(margin(plan.with_span("d", 1, 2), ("delay", "d")), None)
        late = Plan(99, events=("v",), steps=(("d", "start", 1, 99, 0),), bounds=(("v", "d", 0), ("d", "v", 97)))
        self.assertEqual(margin(late, ("delay", "d")), 97)
        self.assertEqual(margin(late.with_bound("d", "v", 98), ("delay", "d")), None)
        self.assertIs(is_driven(late.with_bound("d", "v", 98).with_span("d", 1, 99).with_delay("d", None)), True)

    def test_against_a_search_from_mild_to_strict(self):
        strictest = {}
        for plan in list(time_answers.some_plans(70, 501, steps=2)) + list(RARE):
            for question in margin_answers.questions_of(plan):
                if question[0] == "bound":
                    continue
                values = margin_answers.values_of(plan, question)
                driven = [is_driven(margin_answers.changed(plan, question, number)) for number in values]
                # A plan that is driven with one value is driven with each milder one.
                self.assertEqual(driven, sorted(driven, reverse=True))
                if not driven[0]:
                    self.refuses(Refuted, margin, plan, question)
                    continue
                number = values[driven.count(True) - 1]
                self.assertEqual(margin(plan, question), number)
                strictest.setdefault(question[0], set()).add(number)
                if question == ("all",):
                    self.assertEqual(promised_end(plan), number)
        self.assertLessEqual({1, None}, strictest["delay"])
        self.assertTrue(all(len(strictest[word]) > 3 for word in ("least", "most", "all")), strictest)

    def test_bounds_against_a_search_from_mild_to_strict(self):
        chance = random.Random(502)
        seen = set()
        for plan in time_answers.some_plans(150, 503, steps=2):
            if len(plan) < 2:
                continue
            first, second = chance.sample(plan.points, 2)
            question = ("bound", first, second)
            values = [999, *range(30, -31, -1), -999]
            driven = [is_driven(margin_answers.changed(plan, question, number)) for number in values]
            self.assertEqual(driven, sorted(driven, reverse=True))
            if driven[0]:
                self.assertEqual(margin(plan, question), values[driven.count(True) - 1])
                seen.add(margin(plan, question))
                if first == "start":
                    self.assertEqual(latest_time(plan, second), margin(plan, question))
            else:
                self.refuses(Refuted, margin, plan, question)
        self.assertGreater(len(seen), 8)

    def test_against_the_game(self):
        for plan in time_answers.some_plans(60, 504, steps=2, horizon=3, longest=3):
            for question in margin_answers.questions_of(plan):
                values = margin_answers.values_of(plan, question)
                if question[0] == "most":
                    values = values[:5]
                if question[0] == "bound" and (question[1] > question[2] or plan.bound(*question[1:]) is not None):
                    continue
                if not is_driven(mildest(plan, question)):
                    self.assertIs(margin_answers.is_driven(mildest(plan, question)), False)
                    continue
                number = margin(plan, question)
                self.assertIs(margin_answers.is_driven(changed(plan, question, number)), True)
                place = margin_answers.values_of(plan, question).index(number)
                if place + 1 < len(values):
                    stricter = changed(plan, question, values[place + 1])
                    self.assertIs(margin_answers.is_driven(stricter), False)

    def test_what_can_be_promised(self):
        # v waits for c, and w comes two ticks behind it.
        plan = Plan(30, events=("v", "w"), steps=(("c", "start", 2, 7, 1),), bounds=(("v", "c", 0), ("w", "v", -2)))
        self.assertEqual([latest_time(plan, point) for point in ("c", "v", "w")], [7, 7, 9])
        self.assertEqual(promised_end(plan), 9)
        self.assertEqual(promised_end(plan.with_bound("w", "v", 0)), 7)
        self.assertEqual(latest_time(plan.with_delay("c", None), "v"), 7)


class Papers(Case):
    def check(self, plan, question):
        number, paper, other = margin_paper(plan, question)
        values = margin_answers.values_of(plan, question)
        self.assertEqual(number, margin(plan, question))
        self.assertIs(is_table_paper(margin_answers.changed(plan, question, number), paper), True)
        place = values.index(number)
        if place + 1 < len(values):
            self.assertIs(is_refutation(margin_answers.changed(plan, question, values[place + 1]), other), True)
        else:
            self.assertIsNone(other)
        self.assertIs(is_margin_paper(plan, question, (number, paper, other)), True)

    def test_small_plans(self):
        for plan in (NEAR, TWO, Plan(0), *time_answers.some_plans(40, 505)):
            for question in margin_answers.questions_of(plan):
                if is_driven(mildest(plan, question)):
                    self.check(plan, question)
                else:
                    self.refuses(Refuted, margin_paper, plan, question)

    def test_numbers_that_are_moved(self):
        for question in INNER:
            number, paper, other = margin_paper(NEAR, question)
            values = margin_answers.values_of(NEAR, question)
            for wrong in [value for value in values if value != number] + [True, False, "1", (number,), -1, 1000, 199]:
                if wrong != number or wrong in (True, False):
                    self.assertIs(is_margin_paper(NEAR, question, (wrong, paper, other)), False)
            place = values.index(number)
            milder = values[place - 1]
            self.assertIs(is_margin_paper(
                NEAR, question, (milder, paper_of(changed(NEAR, question, milder)), other),
            ), False)
            stricter = values[place + 1]
            self.assertIs(is_margin_paper(NEAR, question, (stricter, paper, other)), False)

    def test_papers_that_are_exchanged(self):
        for question in INNER:
            number, paper, other = margin_paper(NEAR, question)
            for value in (
                (number, other, paper), (number, paper, paper), (number, other, other), (number, paper, None),
                (number, None, other), (number, paper), (number, paper, other, None), [number, paper, other],
                (paper, number, other), (number, paper, list(other)), (number, list(paper), other),
                (number, paper, paper_of(EXACT)), (number, paper_of(OTHER), other), (number,), (),
            ):
                self.assertIs(is_margin_paper(NEAR, question, value), value == (number, paper, other))
            self.assertIs(is_margin_paper(OTHER, ("all",), (number, paper, other)), False)
            for value in ODD:
                self.assertIs(is_margin_paper(NEAR, question, value), False)
                self.assertIs(is_margin_paper(NEAR, question, (number, paper, value)), False)
                self.assertIs(is_margin_paper(NEAR, question, (number, value, other)), False)
                self.assertIs(is_margin_paper(NEAR, question, (value, paper, other)), value == number and value is number)

    def test_papers_by_others(self):
        # With a smaller table, other numbers, or rows that are not needed, a paper is still one.
        number, (word, plain, late, numbers), (refuted, rows, ring) = margin_paper(NEAR, ("delay", "c"))
        moved = {point: numbers[point] + 7 for point in reversed(list(numbers))}
        value = number, (word, plain, late, moved), (refuted, rows + rows[:1], ring * 2)
        self.assertIs(is_margin_paper(NEAR, ("delay", "c"), value), True)

    def test_true_is_no_number(self):
        number, paper, other = margin_paper(NEAR, ("delay", "c"))
        self.assertEqual(number, 1)
        self.assertIs(is_margin_paper(NEAR, ("delay", "c"), (True, paper, other)), False)
        number, paper, other = margin_paper(NEAR, ("bound", "c", "v"))
        self.assertEqual(number, 0)
        self.assertIs(is_margin_paper(NEAR, ("bound", "c", "v"), (False, paper, other)), False)

    def test_nothing_stays(self):
        for question in QUESTIONS:
            before = margin_paper(NEAR, question)
            for part in margin_paper(NEAR, question)[1][1:]:
                part.clear()
            self.assertEqual(margin_paper(NEAR, question), before)
            for part in before[1][1:]:
                self.assertEqual(list(part), sorted(part))

    def test_papers_are_not_changed(self):
        value = margin_paper(NEAR, ("all",))
        before = margin_paper(NEAR, ("all",))
        is_margin_paper(NEAR, ("all",), value)
        self.assertEqual(value, before)


class Same(Case):
    def test_parts_in_other_orders_and_other_names(self):
        chance = random.Random(506)
        for plan in [TWO, *time_answers.some_plans(30, 507)]:
            names = dict(zip(plan.points[1:], chance.sample("bdefghijklnoprstuy", len(plan) - 1)))
            turned = Plan(
                plan.horizon, events=plan.events[::-1], steps=plan.steps[::-1],
                bounds=tuple(chance.sample(plan.bounds, len(plan.bounds))),
            )
            named = plan.renamed_by(names)
            for question in margin_answers.questions_of(plan):
                other = (question[0],) + tuple(names.get(name, name) for name in question[1:])
                if not is_driven(mildest(plan, question)):
                    self.refuses(Refuted, margin, named, other)
                    continue
                self.assertEqual(margin(named, other), margin(plan, question))
                self.assertEqual(margin_paper(turned, question), margin_paper(plan, question))

    def test_plans_at_the_limits(self):
        plan = Plan(99, events=TEN_EVENTS, steps=FIVE_STEPS, bounds=(("p", "a", 0), ("a", "p", 1), ("j", "t", 0)))
        self.assertEqual(margin(plan, ("most", "p")), 99)
        self.assertEqual(margin(plan, ("delay", "p")), None)
        self.assertEqual(margin(plan.with_bound("a", "p", 0), ("delay", "p")), 0)
        self.assertEqual(margin(plan, ("bound", "b", "j")), -97)
        self.assertEqual(promised_end(plan), 2)
        for question in (("all",), ("least", "p"), ("bound", "a", "p")):
            self.assertIs(is_margin_paper(plan, question, margin_paper(plan, question)), True)

    def test_by_keyword(self):
        self.assertEqual(margin(plan=NEAR, question=("delay", "c")), 1)
        self.assertEqual(changed(number=3, question=("delay", "c"), plan=NEAR), NEAR.with_delay("c", 3))
        value = margin_paper(question=("all",), plan=NEAR)
        self.assertIs(is_margin_paper(value=value, plan=NEAR, question=("all",)), True)
        self.assertEqual((latest_time(point="v", plan=NEAR), promised_end(plan=NEAR)), (3, 5))


if __name__ == "__main__":
    unittest.main()
