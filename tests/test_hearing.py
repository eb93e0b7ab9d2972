"""Ends that must be heard: sets that are enough, blocks, needed ends and papers ([15.1], [15.2], stage 15)."""

import itertools
import random
import unittest

from heardlate.errors import InvalidPlan, Refuted, UnknownName
from heardlate.facts.decided import is_driven, paper_of
from heardlate.facts.refutations import is_refutation
from heardlate.facts.tables import is_table_paper
from heardlate.margins import hearing as module
from heardlate.margins.hearing import (
    hearing_paper, is_block, is_enough, is_hearing_paper, least_blocks, least_sets, needed_ends,
)
from heardlate.plans.plans import Plan
from tests import margin_answers, time_answers
from tests.samples import EXACT, FIVE_STEPS, NEAR, ODD, OTHER, RARE, TEN_EVENTS, Case

# The ends a, b and c must be heard, d need not, and e is never heard.
FIVE = Plan(
    30,
    events=("v", "w", "x"),
    steps=(
        ("a", "start", 2, 6, 1), ("b", "v", 2, 6, 0), ("c", "w", 2, 6, 2), ("d", "start", 1, 3, 0),
        ("e", "start", 1, 3, None),
    ),
    bounds=(
        ("v", "a", 0), ("a", "v", 2), ("w", "b", 0), ("b", "w", 0), ("x", "c", 0), ("c", "x", 3), ("d", "x", 20),
        ("w", "e", 0),
    ),
)
# Each of c and d has an event of its own that must be near it.
TWO = Plan(
    20,
    events=("v", "w"),
    steps=(("c", "start", 1, 5, 0), ("d", "start", 1, 5, 0), ("n", "w", 1, 2, 0)),
    bounds=(("v", "c", 0), ("c", "v", 1), ("w", "d", 0), ("d", "w", 1)),
)
# The event is near c or near d, which have the same length; one of them must be heard.
ONE = Plan(
    20, events=("v",), steps=(("c", "start", 1, 5, 0), ("d", "start", 1, 5, 0)), bounds=(("v", "c", 0), ("c", "v", 1)),
)


def some_plans(many, seed):
    yield from time_answers.some_plans(many, seed, steps=3)


def plan_of_windows(chance):
    """A driven plan in which events are near ends, so that some ends must be heard."""
    while True:
        ends = "cdefg"[: chance.randint(2, 5)]
        begins = ["start", *chance.sample("vwxyz", len(ends))]
        steps, bounds = [], []
        for place, end in enumerate(ends):
            least = chance.randint(1, 3)
            steps.append((end, begins[place], least, least + chance.randint(0, 3), chance.choice((0, 0, 1, None))))
            bounds.append((begins[place + 1], end, chance.randint(0, 1)))
            bounds.append((end, begins[place + 1], chance.randint(0, 3)))
        plan = Plan(30, events=tuple(begins[1:]), steps=tuple(steps), bounds=tuple(bounds))
        if is_driven(plan):
            return plan


class Sets(Case):
    def test_modules(self):
        for name in (
            "is_enough", "is_block", "least_sets", "least_blocks", "needed_ends", "hearing_paper", "is_hearing_paper",
        ):
            self.assertEqual(getattr(module, name).__module__, "heardlate.margins.hearing")

    def test_near(self):
        self.assertEqual([is_enough(NEAR), is_enough(NEAR, "c")], [False, True])
        self.assertEqual([is_block(NEAR), is_block(NEAR, "c")], [False, True])
        self.assertEqual((least_sets(NEAR), least_blocks(NEAR), needed_ends(NEAR)), ((("c",),), (("c",),), ("c",)))
        loose = NEAR.with_bound("v", "c", 9)
        self.assertEqual((least_sets(loose), least_blocks(loose), needed_ends(loose)), (((),), (), ()))
        self.assertEqual([is_enough(loose), is_block(loose), is_block(loose, "c")], [True, False, False])

    def test_two_ends(self):
        self.assertEqual(least_sets(TWO), (("c", "d"),))
        self.assertEqual(least_blocks(TWO), (("c",), ("d",)))
        self.assertEqual(needed_ends(TWO), ("c", "d"))

    def test_no_ends_do_not_mean_all_ends(self):
        self.assertIs(is_block(TWO), False)
        self.assertIs(is_enough(TWO), False)
        self.assertIs(is_enough(TWO, "c", "d", "n"), True)
        self.assertIs(is_block(TWO, "c", "d", "n"), True)
        self.assertIs(is_block(EXACT), True)
        self.assertIs(is_enough(EXACT, "c"), False)
        self.assertIs(is_enough(Plan(3)), True)
        self.assertIs(is_block(Plan(3)), False)

    def test_ends_twice_and_in_other_orders(self):
        for call in (is_enough, is_block):
            for ends in margin_answers.sets_of(FIVE):
                expected = call(FIVE, *ends)
                self.assertIs(call(FIVE, *ends[::-1]), expected)
                self.assertIs(call(FIVE, *ends, *ends), expected)

    def test_steps_that_are_never_heard_stay_so(self):
        deaf = TWO.deaf("c")
        self.assertIs(is_enough(deaf, "c", "d", "n"), False)
        self.assertIs(is_enough(FIVE, "a", "b", "c", "d", "e"), is_driven(FIVE))
        self.assertIs(is_enough(FIVE, "e"), is_driven(FIVE.deaf()))
        self.assertIs(is_block(FIVE, "e"), False)
        for ends in least_sets(FIVE) + least_blocks(FIVE):
            self.assertNotIn("e", ends)

    def test_all_other_delays_stay(self):
        plan = Plan(9, events=("v",), steps=(("c", "start", 1, 3, 2), ("d", "start", 1, 3, 0)),
                    bounds=(("v", "c", 0), ("c", "v", 2)))
        self.assertEqual((least_sets(plan), is_enough(plan, "c")), (((),), True))
        plan = plan.with_bound("c", "v", 1).with_bound("d", "c", 0).with_bound("c", "d", 0)
        self.assertIs(is_enough(plan, "c"), is_driven(plan.deaf("d")))
        self.assertIs(is_enough(plan, "d"), is_driven(plan.deaf("c")))

    def test_against_all_sets_of_ends(self):
        chance = random.Random(511)
        plans = list(some_plans(60, 512)) + [plan_of_windows(chance) for _ in range(60)] + [FIVE, TWO, ONE, *RARE]
        many = set()
        for plan in plans:
            enough = [
                ends for ends in margin_answers.sets_of(plan)
                if is_driven(margin_answers.missing(plan, margin_answers.others(plan, ends)))
            ]
            blocks = [
                ends for ends in margin_answers.sets_of(plan) if not is_driven(margin_answers.missing(plan, ends))
            ]
            for ends in margin_answers.sets_of(plan):
                self.assertIs(is_enough(plan, *ends), ends in enough)
                self.assertIs(is_block(plan, *ends), ends in blocks)
                # Enough exactly if there is an end of each block in it.
                self.assertIs(ends in enough, all(set(ends) & set(block) for block in blocks))
            self.assertEqual(least_blocks(plan), margin_answers.least(blocks))
            if not is_driven(plan):
                self.assertEqual((enough, least_blocks(plan)), ([], ((),)))
                continue
            self.assertEqual(least_sets(plan), margin_answers.least(enough))
            needed = tuple(end for end in plan.ends if all(end in ends for ends in enough))
            self.assertEqual(needed_ends(plan), needed)
            # Each determines the other.
            self.assertEqual(margin_answers.meeting(plan, least_blocks(plan)), least_sets(plan))
            self.assertEqual(margin_answers.meeting(plan, least_sets(plan)), least_blocks(plan))
            many.add((least_sets(plan), least_blocks(plan)))
        self.assertGreater(len(many), 12)
        self.assertTrue(any(len(ends) > 1 for sets, _ in many for ends in sets))

    def test_against_the_game(self):
        for plan in time_answers.some_plans(80, 513, steps=2, horizon=4, longest=3):
            for ends in margin_answers.sets_of(plan):
                driven = margin_answers.is_driven(margin_answers.missing(plan, ends))
                self.assertIs(is_block(plan, *ends), not driven)
                self.assertIs(is_enough(plan, *margin_answers.others(plan, ends)), driven)

    def test_five_ends(self):
        self.assertEqual(least_sets(FIVE), (("a", "b", "c"),))
        self.assertEqual(least_blocks(FIVE), (("a",), ("b",), ("c",)))
        self.assertEqual(needed_ends(FIVE), ("a", "b", "c"))

    def test_refuted_plans(self):
        for plan in (EXACT, NEAR.deaf(), Plan(3, events=("v",), bounds=(("v", "start", -4),))):
            self.assertEqual(least_blocks(plan), ((),))
            for ends in margin_answers.sets_of(plan):
                self.assertIs(is_enough(plan, *ends), False)
                self.assertIs(is_block(plan, *ends), True)
            for call in (least_sets, needed_ends):
                paper = self.refuses(Refuted, call, plan).paper
                self.assertIs(is_refutation(plan, paper), True)

    def test_plans_without_steps(self):
        plan = Plan(3, events=("v",))
        self.assertEqual((least_sets(plan), least_blocks(plan), needed_ends(plan)), (((),), (), ()))

    def test_plans_at_the_limits(self):
        plan = Plan(99, events=TEN_EVENTS, steps=FIVE_STEPS, bounds=tuple(
            bound for event, end in zip("abcde", "pqrst") for bound in ((event, end, 0), (end, event, 0))
        ))
        self.assertEqual(least_sets(plan), (tuple("pqrst"),))
        self.assertEqual(least_blocks(plan), tuple((end,) for end in "pqrst"))
        self.assertEqual(needed_ends(plan), tuple("pqrst"))
        self.assertIs(is_hearing_paper(plan, hearing_paper(plan)), True)


class Errors(Case):
    def test_the_plan_is_checked_first(self):
        for value in ODD:
            if not isinstance(value, Plan):
                for call in (is_enough, is_block):
                    for ends in ((), ("c",), ("x",), (None, "c")):
                        self.refuses(InvalidPlan, call, value, *ends)
                for call in (least_sets, least_blocks, needed_ends, hearing_paper):
                    self.refuses(InvalidPlan, call, value)
                self.refuses(InvalidPlan, is_hearing_paper, value, hearing_paper(NEAR))
                self.refuses(InvalidPlan, is_hearing_paper, value, None)

    def test_unknown_ends(self):
        for plan in (NEAR, EXACT):
            for call in (is_enough, is_block):
                for value in ODD + ("v", "start", "x", ("c",), ["c"]):
                    self.keeps(UnknownName, "name", value, call, plan, value)
                    self.keeps(UnknownName, "name", value, call, plan, "c", value)
                    self.keeps(UnknownName, "name", value, call, plan, "c", "c", value, "other")

    def test_by_keyword(self):
        self.assertEqual(least_sets(plan=NEAR), (("c",),))
        self.assertEqual((least_blocks(plan=NEAR), needed_ends(plan=NEAR)), ((("c",),), ("c",)))
        self.assertIs(is_hearing_paper(value=hearing_paper(plan=NEAR), plan=NEAR), True)


class Papers(Case):
    def test_papers_are_right(self):
        chance = random.Random(514)
        plans = [*some_plans(50, 515), *[plan_of_windows(chance) for _ in range(30)], FIVE, TWO, ONE, EXACT, NEAR, Plan(0)]
        for plan in plans:
            before = margin_answers.made(plan)
            enough, blocks = hearing_paper(plan)
            self.assertIs(is_hearing_paper(plan, (enough, blocks)), True)
            for sets in (enough, blocks):
                self.assertEqual(list(sets), sorted(sets))
            for ends in enough:
                other = margin_answers.missing(plan, margin_answers.others(plan, ends))
                self.assertIs(is_table_paper(other, enough[ends]), True)
            for ends in blocks:
                self.assertIs(is_refutation(margin_answers.missing(plan, ends), blocks[ends]), True)
            for ends in margin_answers.sets_of(plan):
                contains = any(set(chosen) <= set(ends) for chosen in enough)
                misses = any(not set(chosen) & set(ends) for chosen in blocks)
                self.assertIs(contains, not misses)
            self.assertEqual(plan, before)

    def test_refuted_plans(self):
        enough, blocks = hearing_paper(EXACT)
        self.assertEqual((enough, list(blocks)), ({}, [()]))
        self.assertIs(is_hearing_paper(EXACT, ({}, {(): paper_of(EXACT)})), True)
        self.assertIs(is_hearing_paper(EXACT, ({}, {})), False)
        self.assertIs(is_hearing_paper(EXACT, ({(): paper_of(EXACT)}, {})), False)
        self.assertIs(is_hearing_paper(EXACT, ({(): paper_of(EXACT)}, {(): paper_of(EXACT)})), False)
        # That nobody can do without the end does not show that it is of no use.
        self.assertIs(is_hearing_paper(EXACT, ({}, {("c",): paper_of(EXACT.deaf())})), False)

    def test_sets_that_are_left_out(self):
        for plan in (FIVE, TWO, ONE, NEAR):
            enough, blocks = hearing_paper(plan)
            for ends in enough:
                less = {key: enough[key] for key in enough if key != ends}
                self.assertIs(is_hearing_paper(plan, (less, blocks)), False)
            for ends in blocks:
                less = {key: blocks[key] for key in blocks if key != ends}
                self.assertIs(is_hearing_paper(plan, (enough, less)), False)
            self.assertIs(is_hearing_paper(plan, ({}, {})), False)

    def test_more_sets_than_needed(self):
        for plan in (FIVE, TWO, ONE, NEAR):
            enough, blocks = {}, {}
            for ends in margin_answers.sets_of(plan):
                other = margin_answers.missing(plan, margin_answers.others(plan, ends))
                if is_driven(other):
                    enough[ends] = paper_of(other)
                else:
                    blocks[margin_answers.others(plan, ends)] = paper_of(other)
            self.assertIs(is_hearing_paper(plan, (enough, blocks)), True)
            turned = tuple({key: sets[key] for key in reversed(list(sets))} for sets in (enough, blocks))
            self.assertIs(is_hearing_paper(plan, turned), True)
            # One more that is wrong makes the whole wrong.
            some = next(iter(blocks))
            wrong = {**enough, margin_answers.others(plan, some): blocks[some]}
            self.assertIs(is_hearing_paper(plan, (wrong, blocks)), False)
            some = next(iter(enough))
            wrong = {**blocks, margin_answers.others(plan, some): enough[some]}
            self.assertIs(is_hearing_paper(plan, (enough, wrong)), False)

    def test_keys(self):
        enough, blocks = hearing_paper(TWO)
        paper = enough[("c", "d")]
        more = paper_of(TWO)
        self.assertIs(is_hearing_paper(TWO, ({("c", "d"): paper, ("c", "d", "n"): more}, blocks)), True)
        for key in (
            ("d", "c"), ("c", "c", "d"), ("c", "d", "x"), "cd", ("c", "d", "v"), ("c", "start"), "c", None, 0, True, (None,),
            (("c",),), ("d", "c", "n"),
        ):
            self.assertIs(is_hearing_paper(TWO, ({("c", "d"): paper, key: paper}, blocks)), False)
            self.assertIs(is_hearing_paper(TWO, ({("c", "d"): paper, key: more}, blocks)), False)
            self.assertIs(is_hearing_paper(TWO, (enough, {**blocks, key: blocks[("c",)]})), False)
        self.assertIs(is_hearing_paper(TWO, ({("d", "c"): paper}, blocks)), False)

    def test_papers_of_other_sets(self):
        enough, blocks = hearing_paper(TWO)
        self.assertIs(is_hearing_paper(TWO, ({("c", "d"): paper_of(TWO.deaf("n"))}, blocks)), True)
        self.assertIs(is_hearing_paper(TWO, (enough, {("c",): blocks[("d",)], ("d",): blocks[("c",)]})), False)
        self.assertIs(is_hearing_paper(TWO, ({("c", "d"): blocks[("c",)]}, blocks)), False)
        self.assertIs(is_hearing_paper(TWO, (enough, {**blocks, ("d",): enough[("c", "d")]})), False)
        # A table with numbers for a plan in which n is heard may show less.
        plan = Plan(9, events=("v",), steps=(("c", "start", 1, 5, 0), ("n", "v", 1, 2, 0)),
                    bounds=(("v", "c", 0), ("c", "v", 1)))
        enough, blocks = hearing_paper(plan)
        self.assertEqual((list(enough), list(blocks)), ([("c",)], [("c",)]))
        self.assertIs(is_hearing_paper(plan, ({("c",): paper_of(plan.deaf())}, blocks)), False)
        self.assertIs(is_hearing_paper(plan, (enough, {("c",): paper_of(plan.deaf())})), is_refutation(
            plan.deaf("c"), paper_of(plan.deaf()),
        ))
        self.assertIs(is_hearing_paper(OTHER, hearing_paper(NEAR)), False)

    def test_other_values(self):
        for plan in (NEAR, TWO):
            enough, blocks = hearing_paper(plan)
            for value in ODD + (
                [enough, blocks], (enough,), (enough, blocks, {}), (blocks, enough), (list(enough.items()), blocks),
                (enough, tuple(blocks.items())), {0: enough, 1: blocks}, (enough, None), (None, blocks),
                ({("c",): None}, blocks), (enough, {("c",): None}),
            ):
                self.assertIs(is_hearing_paper(plan, value), False)
            for value in ODD:
                self.assertIs(is_hearing_paper(plan, ({**enough, plan.ends: value}, blocks)), False)
                self.assertIs(is_hearing_paper(plan, (enough, {**blocks, plan.ends: value})), False)
                self.assertIs(is_hearing_paper(plan, (value, blocks)), False)
                self.assertIs(is_hearing_paper(plan, (enough, value)), False)
        self.assertIs(is_hearing_paper(Plan(0), ({(): paper_of(Plan(0))}, {})), True)

    def test_nothing_stays(self):
        before = hearing_paper(FIVE)
        for sets in hearing_paper(FIVE):
            for ends in sets:
                if sets[ends][0] == "table":
                    sets[ends][1].clear()
            sets.clear()
        self.assertEqual(hearing_paper(FIVE), before)

    def test_papers_are_not_changed(self):
        value = hearing_paper(FIVE)
        is_hearing_paper(FIVE, value)
        self.assertEqual(value, hearing_paper(FIVE))


class Same(Case):
    def test_parts_in_other_orders_and_other_names(self):
        chance = random.Random(516)
        for plan in [FIVE, TWO, *[plan_of_windows(chance) for _ in range(20)]]:
            turned = Plan(
                plan.horizon, events=plan.events[::-1], steps=plan.steps[::-1],
                bounds=tuple(chance.sample(plan.bounds, len(plan.bounds))),
            )
            self.assertEqual(least_blocks(turned), least_blocks(plan))
            self.assertEqual(hearing_paper(turned), hearing_paper(plan))
            names = dict(zip(plan.ends, chance.sample("hijklmnop", len(plan.ends))))
            named = plan.renamed_by(names)
            for call in (least_blocks, least_sets):
                expected = [tuple(sorted(names[end] for end in ends)) for ends in call(plan)]
                self.assertEqual(list(call(named)), sorted(expected, key=lambda ends: (len(ends), ends)))
            self.assertIs(is_hearing_paper(named, hearing_paper(named)), True)


if __name__ == "__main__":
    unittest.main()
