"""Tables: what they are, when they are closed, and the greatest ones with numbers ([8.1], [8.2], stage 8)."""

import itertools
import random
import unittest

from heardlate.errors import InvalidNumber, InvalidPlan, InvalidTable
from heardlate.facts import tables as module
from heardlate.facts.facts import derived, fact_holds, given_facts
from heardlate.facts.refutations import refutation
from heardlate.facts.tables import (
    derived_table, is_closed, is_table, is_table_paper, narrowed, open_rule, table_numbers,
)
from heardlate.plans.plans import Plan
from tests import rule_answers, time_answers
from tests.game_answers import Game
from tests.samples import EXACT, FIVE_STEPS, FORTY, NEAR, ODD, RARE, TEN_EVENTS, Case

PLAIN = {
    ("c", "c"): 0, ("c", "start"): -1, ("c", "v"): 1, ("start", "c"): 5, ("start", "start"): 0, ("start", "v"): 6,
    ("v", "c"): 2, ("v", "start"): -1, ("v", "v"): 0,
}
LATE = {("c", "c"): -5, ("start", "c"): 0, ("v", "c"): -3}
NUMBERS = {"c": 5, "start": 0, "v": 4}
ALL = (is_closed, open_rule, table_numbers)
LIMIT = Plan(
    99,
    events=TEN_EVENTS,
    steps=(
        ("p", "a", 2, 9, 0), ("q", "b", 1, 9, 3), ("r", "start", 5, 30, 9), ("s", "start", 1, 20, None),
        ("t", "a", 3, 3, 0),
    ),
    bounds=(("p", "b", 4), ("b", "p", 6), ("q", "c", 9), ("c", "q", 9), ("d", "r", 12), ("r", "e", 10), ("e", "r", 9)),
)


def table_paper(plan):
    plain, late = derived_table(plan)
    return "table", plain, late, table_numbers(plan, plain, late)


def changed(numbers, pair, number):
    return {**numbers, pair: number}


def driven_plans(many, seed, **more):
    for plan in time_answers.some_plans(many, seed, **more):
        table = derived_table(plan)
        if table is not None:
            yield plan, *table


class IsTable(Case):
    def test_modules(self):
        for name in (
            "is_table", "is_closed", "open_rule", "table_numbers", "is_table_paper", "derived_table", "narrowed",
        ):
            self.assertEqual(getattr(module, name).__module__, "heardlate.facts.tables")

    def test_tables(self):
        self.assertIs(is_table(NEAR, (PLAIN, LATE)), True)
        self.assertIs(is_table(NEAR, (dict(reversed(PLAIN.items())), dict(reversed(LATE.items())))), True)
        self.assertIs(is_table(NEAR, (dict.fromkeys(PLAIN, FORTY), dict.fromkeys(LATE, -FORTY))), True)
        self.assertIs(is_table(Plan(0), ({("start", "start"): 3}, {})), True)
        # The events and steps of both plans have the same points.
        self.assertIs(is_table(EXACT, (PLAIN, LATE)), True)

    def test_other_keys(self):
        for pair in PLAIN:
            less = {other: PLAIN[other] for other in PLAIN if other != pair}
            self.assertIs(is_table(NEAR, (less, LATE)), False)
            self.assertIs(is_table(NEAR, ({**less, ("v", "x"): 0}, LATE)), False)
            self.assertIs(is_table(NEAR, ({**less, ("plain", *pair): 0}, LATE)), False)
        for pair in LATE:
            less = {other: LATE[other] for other in LATE if other != pair}
            self.assertIs(is_table(NEAR, (PLAIN, less)), False)
            self.assertIs(is_table(NEAR, (PLAIN, {**less, pair[::-1]: 0})), pair == ("c", "c"))
        for key in (("x", "v"), ("v", "x"), "v", ("v",), ("v", "v", "v"), None, 0, ("late", "v", "c"), ()):
            self.assertIs(is_table(NEAR, ({**PLAIN, key: 0}, LATE)), False)
            self.assertIs(is_table(NEAR, (PLAIN, {**LATE, key: 0})), False)
        self.assertIs(is_table(NEAR, (PLAIN, {**LATE, ("c", "v"): 0})), False)
        self.assertIs(is_table(NEAR, (LATE, PLAIN)), False)
        self.assertIs(is_table(NEAR, (PLAIN, PLAIN)), False)

    def test_other_numbers(self):
        for number in (True, False, None, "0", "", (), (0,), [0], {}, NEAR):
            for pair in PLAIN:
                self.assertIs(is_table(NEAR, (changed(PLAIN, pair, number), LATE)), False)
            for pair in LATE:
                self.assertIs(is_table(NEAR, (PLAIN, changed(LATE, pair, number))), False)

    def test_other_values(self):
        for value in ODD:
            if value != derived_table(NEAR):
                self.assertIs(is_table(NEAR, value), False)
            for call in ALL:
                self.refuses(InvalidTable, call, NEAR, value, LATE)
                self.refuses(InvalidTable, call, NEAR, PLAIN, value)
                self.refuses(InvalidTable, call, NEAR, value, value)
        for value in ([PLAIN, LATE], (PLAIN,), (PLAIN, LATE, {}), {"plain": PLAIN, "late": LATE}, PLAIN, ("table", PLAIN)):
            self.assertIs(is_table(NEAR, value), False)

    def test_tables_of_other_plans(self):
        for plan in (NEAR.without("v"), NEAR.with_event("w"), NEAR.renamed(v="w"), NEAR.renamed(c="d")):
            self.assertIs(is_table(plan, (PLAIN, LATE)), False)
            for call in ALL:
                self.refuses(InvalidTable, call, plan, PLAIN, LATE)
            self.assertIs(is_table_paper(plan, ("table", PLAIN, LATE, NUMBERS)), False)

    def test_the_plan_is_checked(self):
        for value in ODD:
            if not isinstance(value, Plan):
                for call in ALL:
                    self.refuses(InvalidPlan, call, value, PLAIN, LATE)
                    self.refuses(InvalidPlan, call, value, None, None)
                for call in (is_table, is_table_paper):
                    self.refuses(InvalidPlan, call, value, (PLAIN, LATE))
                    self.refuses(InvalidPlan, call, value, None)
                self.refuses(InvalidPlan, derived_table, value)
                self.refuses(InvalidPlan, narrowed, value, None, None, None, None)


class Closed(Case):
    def check_open(self, plan, plain, late):
        """Checks what a rule is said to give that the table does not meet."""
        found = open_rule(plan, plain, late)
        self.assertIs(is_closed(plan, plain, late), found is None)
        values = rule_answers.values_of(plain, late)
        if found is None:
            self.assertIsNone(rule_answers.first_open(plan, values))
            return None
        rule, facts, fact = found
        if rule == "given":
            self.assertEqual(facts, ())
            self.assertGreater(values[fact], given_facts(plan)[fact])
        else:
            self.assertIs(type(facts), tuple)
            follows = derived(plan, rule, *((one, values[one]) for one in facts))
            self.assertEqual(follows[0], fact)
            self.assertGreater(values[fact], follows[1])
        self.assertIsNotNone(rule_answers.first_open(plan, values))
        return rule

    def test_near(self):
        self.assertIs(is_closed(NEAR, PLAIN, LATE), True)
        self.assertIsNone(open_rule(NEAR, PLAIN, LATE))
        self.assertIs(is_closed(EXACT, PLAIN, LATE), False)
        self.assertEqual(open_rule(EXACT, PLAIN, LATE)[:2], ("given", ()))

    def test_one_number_changed(self):
        rules = set()
        for pair in PLAIN:
            for more in (-2, -1, 1, 2, FORTY, -FORTY):
                rules.add(self.check_open(NEAR, changed(PLAIN, pair, PLAIN[pair] + more), LATE))
        for pair in LATE:
            for more in (-2, -1, 1, 2, FORTY, -FORTY):
                rules.add(self.check_open(NEAR, PLAIN, changed(LATE, pair, LATE[pair] + more)))
        self.assertGreaterEqual(rules, {"given", "chain", "late", "release"})

    def test_keys_in_any_order(self):
        for seed in range(5):
            chance = random.Random(seed)
            plain = dict(chance.sample(sorted(PLAIN.items()), len(PLAIN)))
            late = dict(chance.sample(sorted(LATE.items()), len(LATE)))
            self.assertIs(is_closed(NEAR, plain, late), True)
            self.assertIs(is_table_paper(NEAR, ("table", plain, late, dict(reversed(NUMBERS.items())))), True)

    def test_a_smaller_number_with_which_early_begins_to_apply(self):
        # The end c is heard after one tick, and v comes at most one tick behind it; d is never heard.
        plan = Plan(9, events=("v",), steps=(("c", "start", 1, 5, 1),), bounds=(("c", "v", 1), ("v", "c", 9)))
        plain, late = derived_table(plan)
        self.assertEqual((plain[("c", "v")], plain[("start", "v")]), (1, 6))
        sunk = changed(plain, ("c", "v"), 0)
        self.assertEqual(open_rule(plan, sunk, late)[0], "chain")
        sunk[("start", "v")] = 5
        self.assertEqual(open_rule(plan, sunk, late), ("early", (("plain", "c", "v"),), ("plain", "start", "v")))
        sunk[("start", "v")] = 1
        self.assertNotEqual(open_rule(plan, sunk, late), ("early", (("plain", "c", "v"),), ("plain", "start", "v")))
        self.assertIs(is_closed(plan.with_delay("c", 0), changed(changed(plain, ("c", "v"), 0), ("start", "v"), 5), late),
                      True)

    def test_against_a_plain_answer(self):
        chance = random.Random(81)
        rules = set()
        for plan, plain, late in driven_plans(250, 82, steps=3):
            self.assertIsNone(self.check_open(plan, plain, late))
            for _ in range(6):
                other, more = dict(plain), dict(late)
                for _ in range(chance.choice((1, 1, 2))):
                    numbers = chance.choice((other, more)) if more else other
                    pair = chance.choice(list(numbers))
                    numbers[pair] += chance.choice((-3, -1, 1, 2))
                rules.add(self.check_open(plan, other, more))
        self.assertEqual(rules, {None, "given", "chain", "late", "through", "early", "release"})

    def test_all_tables_of_a_small_plan(self):
        plan = Plan(1, steps=(("c", "start", 1, 2, 1),))
        pairs = [("c", "c"), ("c", "start"), ("start", "c"), ("start", "start")]
        closed = []
        for numbers in itertools.product((-1, 0, 1), (-2, -1, 0), (1, 2, 3), (-1, 0), (-3, -2, -1), (-1, 0, 1)):
            plain = dict(zip(pairs, numbers))
            late = {("c", "c"): numbers[4], ("start", "c"): numbers[5]}
            found = is_closed(plan, plain, late)
            self.assertIs(found, rule_answers.first_open(plan, rule_answers.values_of(plain, late)) is None)
            if found and table_numbers(plan, plain, late) is not None:
                closed.append((plain, late))
        greatest = [{pair: max(one[k][pair] for one in closed) for pair in closed[0][k]} for k in (0, 1)]
        self.assertEqual(derived_table(plan), tuple(greatest))

    def test_plans_at_the_limits(self):
        plain, late = derived_table(LIMIT)
        self.assertEqual((len(plain), len(late)), (256, 80))
        self.assertIs(is_closed(LIMIT, plain, late), True)
        for pair in list(plain)[::17]:
            self.assertIs(is_closed(LIMIT, changed(plain, pair, plain[pair] + 1), late), False)
        for pair in list(late)[::7]:
            self.assertIs(is_closed(LIMIT, plain, changed(late, pair, late[pair] + 1)), False)


class Numbers(Case):
    def test_near(self):
        numbers = table_numbers(NEAR, PLAIN, LATE)
        self.assertEqual(list(numbers), ["c", "start", "v"])
        self.assertIs(is_table_paper(NEAR, ("table", PLAIN, LATE, numbers)), True)
        self.assertEqual(table_numbers(Plan(0), {("start", "start"): 0}, {}).keys(), {"start"})

    def test_tables_without_numbers(self):
        self.assertIsNone(table_numbers(Plan(0), {("start", "start"): -1}, {}))
        self.assertIsNone(table_numbers(NEAR, changed(PLAIN, ("v", "v"), -1), LATE))
        self.assertIsNone(table_numbers(NEAR, changed(PLAIN, ("v", "start"), -7), LATE))
        # Only the way of a late fact, from the start to the begin of c, leads to this ring.
        self.assertIsNone(table_numbers(NEAR, PLAIN, changed(LATE, ("start", "c"), -1)))
        self.assertIsNotNone(table_numbers(NEAR, PLAIN, changed(LATE, ("start", "c"), FORTY)))
        self.assertIsNotNone(table_numbers(NEAR, dict.fromkeys(PLAIN, FORTY), dict.fromkeys(LATE, FORTY)))

    def test_against_a_plain_answer(self):
        chance = random.Random(83)
        without = 0
        for plan in time_answers.some_plans(200, 84, steps=3):
            plain = {pair: chance.randint(-2, 9) for pair in itertools.product(plan.points, repeat=2)}
            plain.update({(point, point): chance.choice((0, 0, 0, 3)) for point in plan.points})
            late = {pair: chance.randint(-2, 9) for pair in itertools.product(plan.points, plan.ends)}
            numbers = table_numbers(plan, plain, late)
            self.assertEqual(numbers is None, rule_answers.have_ring(plan, rule_answers.values_of(plain, late)))
            without += numbers is None
            if numbers is not None:
                self.assertEqual(list(numbers), sorted(plan.points))
                self.assertTrue(all(numbers[v] <= numbers[u] + plain[u, v] for u, v in plain))
                self.assertTrue(all(numbers[plan.step(c)[1]] <= numbers[u] + late[u, c] for u, c in late))
        self.assertTrue(20 < without < 180)

    def test_closed_or_not(self):
        self.assertIsNotNone(table_numbers(EXACT, PLAIN, LATE))
        self.assertIs(is_table_paper(EXACT, ("table", PLAIN, LATE, table_numbers(EXACT, PLAIN, LATE))), False)


class Papers(Case):
    def test_papers(self):
        for more in (0, 3, -3, FORTY - 5):
            numbers = {point: NUMBERS[point] + more for point in NUMBERS}
            self.assertIs(is_table_paper(NEAR, ("table", PLAIN, LATE, numbers)), True)
        self.assertIs(is_table_paper(Plan(0), ("table", {("start", "start"): 0}, {}, {"start": 7})), True)
        self.assertIs(is_table_paper(Plan(0), ("table", {("start", "start"): -1}, {}, {"start": 7})), False)
        self.assertIs(is_table_paper(Plan(0), ("table", {("start", "start"): 1}, {}, {"start": 7})), False)

    def test_all_small_numbers(self):
        for c, start, v in itertools.product(range(-6, 7), repeat=3):
            numbers = {"c": c, "start": start, "v": v}
            right = all(numbers[second] <= numbers[first] + PLAIN[first, second] for first, second in PLAIN)
            right = right and all(start <= numbers[first] + LATE[first, end] for first, end in LATE)
            self.assertIs(is_table_paper(NEAR, ("table", PLAIN, LATE, numbers)), right)

    def test_other_numbers(self):
        for number in (True, False, None, "0", (), [0], NEAR):
            for point in NUMBERS:
                self.assertIs(is_table_paper(NEAR, ("table", PLAIN, LATE, {**NUMBERS, point: number})), False)
        for value in ODD + ({**NUMBERS, "x": 0}, {"c": 0, "start": 0}, {"c": 0, "start": 0, "w": 0}, list(NUMBERS)):
            self.assertIs(is_table_paper(NEAR, ("table", PLAIN, LATE, value)), False)
        self.assertIs(is_table_paper(NEAR, ("table", PLAIN, LATE, {**NUMBERS, ("v",): 0})), False)

    def test_other_values(self):
        for value in ODD + (
            ["table", PLAIN, LATE, NUMBERS], ("table", PLAIN, LATE), ("table", PLAIN, LATE, NUMBERS, 0),
            ("refuted", PLAIN, LATE, NUMBERS), (PLAIN, LATE, NUMBERS), ("Table", PLAIN, LATE, NUMBERS),
            ("table", (PLAIN, LATE), NUMBERS), ("table", LATE, PLAIN, NUMBERS), ("table", PLAIN, NUMBERS, LATE),
            (None, PLAIN, LATE, NUMBERS), ("table", None, None, None), ("table", PLAIN, LATE, None),
        ):
            self.assertIs(is_table_paper(NEAR, value), False)
        for number in (True, False, None, "0"):
            for pair in PLAIN:
                self.assertIs(is_table_paper(NEAR, ("table", changed(PLAIN, pair, number), LATE, NUMBERS)), False)

    def test_one_number_changed(self):
        for pair in PLAIN:
            for more in (-1, 1):
                plain = changed(PLAIN, pair, PLAIN[pair] + more)
                right = rule_answers.first_open(NEAR, rule_answers.values_of(plain, LATE)) is None
                right = right and all(NUMBERS[v] <= NUMBERS[u] + plain[u, v] for u, v in plain)
                self.assertIs(is_table_paper(NEAR, ("table", plain, LATE, NUMBERS)), right)
        for pair in LATE:
            for more in (-1, 1):
                late = changed(LATE, pair, LATE[pair] + more)
                right = rule_answers.first_open(NEAR, rule_answers.values_of(PLAIN, late)) is None
                right = right and all(NUMBERS["start"] <= NUMBERS[u] + late[u, c] for u, c in late)
                self.assertIs(is_table_paper(NEAR, ("table", PLAIN, late, NUMBERS)), right)

    def test_papers_of_other_plans(self):
        for plan, other in itertools.permutations(
            (NEAR, NEAR.with_horizon(5), NEAR.with_bound("v", "c", 3), NEAR.with_delay("c", 1), NEAR.with_span("c", 1, 4)),
            2,
        ):
            paper = table_paper(plan)
            self.assertIs(is_table_paper(plan, paper), True)
            self.assertIs(is_table_paper(other, paper), rule_answers.first_open(
                other, rule_answers.values_of(*paper[1:3])
            ) is None)
        # A plan that asks for less may have the same paper.
        self.assertIs(is_table_paper(NEAR.with_horizon(20), table_paper(NEAR)), True)
        self.assertIs(is_table_paper(NEAR.with_bound("v", "c", 3), table_paper(NEAR)), True)
        self.assertIs(is_table_paper(NEAR, table_paper(NEAR.with_bound("v", "c", 3))), False)
        self.assertIs(is_table_paper(EXACT, table_paper(NEAR)), False)

    def test_refuted_plans_have_none(self):
        for plan in time_answers.some_plans(150, 85):
            if derived_table(plan) is None:
                for _, plain, late in driven_plans(3, 86):
                    self.assertIs(is_table_paper(plan, ("table", plain, late, dict.fromkeys(plan.points, 0))), False)

    def test_nothing_changes(self):
        paper = ("table", dict(PLAIN), dict(LATE), dict(NUMBERS))
        is_table_paper(NEAR, paper)
        is_closed(NEAR, paper[1], paper[2])
        self.assertEqual(paper, ("table", PLAIN, LATE, NUMBERS))


class DerivedTable(Case):
    def test_example(self):
        plain, late = derived_table(NEAR)
        self.assertEqual((plain[("v", "start")], late[("v", "c")], plain[("start", "v")]), (-1, -3, 6))
        self.assertEqual((plain, late), (PLAIN, LATE))
        self.assertEqual((list(plain), list(late)), (sorted(PLAIN), sorted(LATE)))
        self.assertIsNone(derived_table(EXACT))

    def test_small_plans(self):
        self.assertEqual(derived_table(Plan(0)), ({("start", "start"): 0}, {}))
        self.assertEqual(derived_table(Plan(0, events=("v",)))[0], dict.fromkeys(
            itertools.product(("start", "v"), repeat=2), 0
        ))
        self.assertIsNone(derived_table(Plan(4, events=("v",), bounds=(("v", "start", -5),))))
        self.assertIsNotNone(derived_table(Plan(5, events=("v",), bounds=(("v", "start", -5),))))
        self.assertIsNone(derived_table(Plan(0, steps=(("c", "start", 1, 2, 0),), bounds=(("start", "c", 1),))))
        self.assertIsNone(derived_table(Plan(0, steps=(("c", "start", 1, 2, 0),), bounds=(("c", "start", -2),))))

    def test_the_driven_plans_are_those_with_a_table(self):
        driven = refuted = 0
        for plan in itertools.chain(
            time_answers.some_plans(600, 87), time_answers.some_plans(250, 88, steps=3, horizon=4, longest=3)
        ):
            table = derived_table(plan)
            self.assertEqual(table is not None, Game(plan).is_driven())
            self.assertEqual(table is None, refutation(plan) is not None)
            driven += table is not None
            refuted += table is None
        self.assertGreater(min(driven, refuted), 200)

    def test_the_rules_in_any_order(self):
        for seed, plan in enumerate(time_answers.some_plans(60, 89)):
            expected = derived_table(plan)
            chance = random.Random(seed)
            for other in range(3):
                values = rule_answers.closure(plan, 100 * seed + other)
                self.assertEqual(expected, None if values is None else rule_answers.table_of(values))
            parts = [chance.sample(part, len(part)) for part in (plan.events, plan.steps, plan.bounds)]
            again = Plan(plan.horizon, events=tuple(parts[0]), steps=tuple(parts[1]), bounds=tuple(parts[2]))
            self.assertEqual(derived_table(again), expected)

    def test_early_with_late_facts(self):
        found = [derived_table(plan) for plan in RARE]
        self.assertEqual([table is not None for table in found], [Game(plan).is_driven() for plan in RARE])
        self.assertEqual([table is not None for table in found], [True] * 8 + [False] * 3)
        for plan, table in zip(RARE, found):
            for seed in range(3):
                values = rule_answers.closure(plan, seed)
                self.assertEqual(table, None if values is None else rule_answers.table_of(values))
            if table is not None:
                self.assertIs(is_closed(plan, *table), True)
                for pair in table[1]:
                    self.assertIs(is_closed(plan, table[0], changed(table[1], pair, table[1][pair] + 1)), False)

    def test_names_do_not_matter(self):
        for plan, plain, late in driven_plans(80, 90, steps=3):
            names = dict(zip(plan.points[1:], reversed("bdefgjkl")))
            there = {"start": "start", **names}
            again = derived_table(plan.renamed_by(names))
            self.assertEqual(again[0], {(there[u], there[v]): number for (u, v), number in plain.items()})
            self.assertEqual(again[1], {(there[u], there[c]): number for (u, c), number in late.items()})

    def test_it_is_closed_and_has_numbers(self):
        for plan, plain, late in driven_plans(250, 91, steps=4):
            self.assertEqual((list(plain), list(late)), (sorted(plain), sorted(late)))
            self.assertIs(is_table_paper(plan, table_paper(plan)), True)
            self.assertEqual([plain[(point, point)] for point in plan.points], [0] * len(plan.points))

    def test_all_safe_drivers_fulfil_it(self):
        held = 0
        for plan, plain, late in driven_plans(60, 93, events=2, horizon=4):
            for times in Game(plan).safe_times():
                self.assertTrue(all(fact_holds(plan, ("plain", *pair), plain[pair], times) for pair in plain))
                for pair in late:
                    _, begin, _, most, _ = plan.step(pair[1])
                    if times[pair[1]] == times[begin] + most:
                        self.assertIs(fact_holds(plan, ("late", *pair), late[pair], times), True)
                        held += 1
        self.assertGreater(held, 500)

    def test_no_number_can_be_greater(self):
        for plan, plain, late in driven_plans(60, 92):
            for pair in plain:
                self.assertIs(is_closed(plan, changed(plain, pair, plain[pair] + 1), late), False)
            for pair in late:
                self.assertIs(is_closed(plan, plain, changed(late, pair, late[pair] + 1)), False)

    def test_plans_at_the_limits(self):
        plan = Plan(99, events=TEN_EVENTS, steps=FIVE_STEPS)
        plain, late = derived_table(plan)
        self.assertEqual({plain[(u, v)] for u in TEN_EVENTS for v in TEN_EVENTS if u != v}, {99})
        self.assertEqual(late[("a", "p")], 0)
        plain, late = derived_table(LIMIT)
        self.assertEqual(rule_answers.table_of(rule_answers.closure(LIMIT, 1)), (plain, late))
        self.assertIsNone(derived_table(LIMIT.with_bound("start", "j", 50).with_bound("j", "start", -51)))
        self.assertIsNone(derived_table(LIMIT.with_bound("b", "p", 5).with_bound("p", "b", -1)))

    def test_nothing_stays(self):
        plain, late = derived_table(NEAR)
        plain[("v", "start")] = 9
        late.clear()
        self.assertEqual(derived_table(NEAR), (PLAIN, LATE))


class Narrowed(Case):
    def test_a_value_that_changes_nothing(self):
        for pair in PLAIN:
            for most in (PLAIN[pair], PLAIN[pair] + 1, 999, FORTY):
                found = narrowed(NEAR, PLAIN, LATE, ("plain", *pair), most)
                self.assertEqual(found, (PLAIN, LATE))
                self.assertIsNot(found[0], PLAIN)
        for pair in LATE:
            self.assertEqual(narrowed(NEAR, PLAIN, LATE, ("late", *pair), LATE[pair]), (PLAIN, LATE))
        plain = dict(reversed(PLAIN.items()))
        self.assertEqual(list(narrowed(NEAR, plain, LATE, ("plain", "v", "v"), 0)[0]), sorted(PLAIN))

    def test_smaller_values(self):
        plain, late = narrowed(NEAR, PLAIN, LATE, ("plain", "start", "v"), 4)
        self.assertEqual((plain[("start", "v")], plain[("c", "v")]), (4, 1))
        self.assertIs(is_closed(NEAR, plain, late), True)
        self.assertEqual((plain, late), derived_table(NEAR.with_bound("start", "v", 4)))

    def test_no_table(self):
        self.assertIsNone(narrowed(NEAR, PLAIN, LATE, ("plain", "start", "v"), 2))
        self.assertIsNotNone(narrowed(NEAR, PLAIN, LATE, ("plain", "start", "v"), 3))
        for fact in rule_answers.facts_of(NEAR):
            self.assertIsNone(narrowed(NEAR, PLAIN, LATE, fact, -FORTY))
        self.assertIsNone(narrowed(NEAR, PLAIN, LATE, ("plain", "v", "v"), -1))
        self.assertIsNone(narrowed(NEAR, PLAIN, LATE, ("late", "start", "c"), -1))

    def test_against_a_plain_answer(self):
        chance = random.Random(93)
        without = tried = 0
        for plan, plain, late in driven_plans(120, 94):
            for _ in range(3):
                fact = chance.choice(rule_answers.facts_of(plan))
                values = rule_answers.values_of(plain, late)
                most = values[fact] - chance.choice((0, 1, 1, 2, 4))
                found = narrowed(plan, plain, late, fact, most)
                expected = rule_answers.closure(plan, tried, {**values, fact: most})
                self.assertEqual(found, None if expected is None else rule_answers.table_of(expected))
                tried += 1
                without += found is None
                if found is None:
                    continue
                self.assertEqual((list(found[0]), list(found[1])), (sorted(plain), sorted(late)))
                self.assertIs(is_closed(plan, *found), True)
                self.assertIsNotNone(table_numbers(plan, *found))
                self.assertLessEqual(rule_answers.values_of(*found)[fact], most)
                # The next one begins with this narrower table.
                plain, late = found
        self.assertTrue(20 < without < tried - 20)

    def test_all_narrower_tables_are_at_most_so_great(self):
        chance = random.Random(95)
        for plan, plain, late in driven_plans(40, 96):
            fact, other = chance.sample(rule_answers.facts_of(plan), 2) if len(plan) > 1 else [("plain", "start", "start")] * 2
            values = rule_answers.values_of(plain, late)
            one = narrowed(plan, plain, late, fact, values[fact] - 1)
            both = one and narrowed(plan, *one, other, values[other] - 1)
            again = narrowed(plan, plain, late, other, values[other] - 1)
            if both:
                self.assertIsNotNone(again)
                worth = rule_answers.values_of(*both)
                for table in (one, again, (plain, late)):
                    there = rule_answers.values_of(*table)
                    self.assertTrue(all(worth[key] <= there[key] for key in worth))
                self.assertEqual(both, narrowed(plan, *again, fact, values[fact] - 1))

    def test_with_a_bound_it_is_the_derived_table(self):
        chance = random.Random(97)
        for plan, plain, late in driven_plans(120, 98, steps=3):
            if len(plan) > 1:
                first, second = chance.sample(plan.points, 2)
                most = plain[(first, second)] - chance.randint(0, 3)
                found = narrowed(plan, plain, late, ("plain", first, second), most)
                self.assertEqual(found, derived_table(plan.with_bound(first, second, most)))

    def test_errors(self):
        fact = ("plain", "v", "c")
        for value in ODD:
            self.refuses(InvalidTable, narrowed, NEAR, value, LATE, fact, 0)
            self.refuses(InvalidTable, narrowed, NEAR, PLAIN, value, fact, 0)
            self.refuses(InvalidTable, narrowed, NEAR, PLAIN, LATE, value, 0)
            self.refuses(InvalidTable, narrowed, NEAR, PLAIN, LATE, value, None)
            self.refuses(InvalidTable, narrowed, NEAR, PLAIN, value, fact, None)
            if not isinstance(value, int) or isinstance(value, bool):
                self.keeps(InvalidNumber, "value", value, narrowed, NEAR, PLAIN, LATE, fact, value)
        for wrong in (("late", "v", "v"), ("plain", "v", "x"), ("v", "c"), ["plain", "v", "c"]):
            self.refuses(InvalidTable, narrowed, NEAR, PLAIN, LATE, wrong, True)

    def test_tables_that_are_not_closed(self):
        for pair in PLAIN:
            wrong = changed(PLAIN, pair, PLAIN[pair] + 1)
            self.refuses(InvalidTable, narrowed, NEAR, wrong, LATE, ("plain", "v", "c"), -FORTY)
            self.refuses(InvalidTable, narrowed, NEAR, wrong, LATE, ("plain", "v", "c"), None)
        self.refuses(InvalidTable, narrowed, EXACT, PLAIN, LATE, ("plain", "v", "c"), 0)
        self.refuses(InvalidTable, narrowed, NEAR, PLAIN, changed(LATE, ("v", "c"), -2), ("plain", "v", "c"), 0)

    def test_nothing_changes(self):
        plain, late = dict(PLAIN), dict(LATE)
        found = narrowed(NEAR, plain, late, ("plain", "start", "v"), 4)
        self.assertEqual((list(plain.items()), list(late.items())), (list(PLAIN.items()), list(LATE.items())))
        found[0].clear()
        self.assertEqual(len(narrowed(NEAR, plain, late, ("plain", "start", "v"), 4)[0]), 9)
        narrowed(NEAR, plain, late, ("plain", "start", "v"), 9)[0].clear()
        self.assertEqual(plain, PLAIN)

    def test_plans_at_the_limits(self):
        plain, late = derived_table(LIMIT)
        found = narrowed(LIMIT, plain, late, ("plain", "start", "j"), 7)
        self.assertEqual(found, derived_table(LIMIT.with_bound("start", "j", 7)))
        self.assertIsNone(narrowed(LIMIT, plain, late, ("plain", "p", "b"), -1))


if __name__ == "__main__":
    unittest.main()
