"""Compiled tasks: their plans, and the rules over their leaves ([18.3], [18.4], stage 18)."""

import itertools
import random
import unittest

from heardlate.drive.drivers import EagerDriver, TableDriver, drive
from heardlate.errors import InvalidNumber, InvalidOperation, InvalidTask, TooMany
from heardlate.facts.decided import derived_paper, is_driven, is_paper, paper_of
from heardlate.margins.margins import promised_end
from heardlate.plans.durations import all_durations
from heardlate.plans.plans import Plan
from heardlate.plans.times import are_kept, times_of
from heardlate.tasks.tasks import Beside, Other, Own, Row, Task, Within, compiled
from tests import task_answers, time_answers
from tests.samples import ODD, Case

A, B, C, D = (Own(name, 1, 2) for name in "abcd")
JOB = Task.read("[a 1..2; b 1..3? 0] 6 | c 2..2")


def spans_in(times, names):
    return {name: (times[name + "b"], times[name + "f"]) for name in names}


def are_rules_kept(rules, spans):
    for word, x, y, *number in rules:
        if word == "after" and not spans[y][0] >= spans[x][1] + number[0]:
            return False
        if word == "soon" and not spans[y][0] <= spans[x][1] + number[0]:
            return False
        if word == "together" and spans[x][0] != spans[y][0]:
            return False
    return True


def some_rules(chance, names, far=4):
    rules = []
    for _ in range(chance.randint(0, 3) if len(names) > 1 else 0):
        x, y = chance.sample(names, 2)
        word = chance.choice(("after", "soon", "together"))
        rules.append((word, x, y) if word == "together" else (word, x, y, chance.randint(-far, far)))
    return tuple(rules)


class Plans(Case):
    def test_example(self):
        rules = (("soon", "b", "c", 0), ("after", "b", "c", 0))
        plan = compiled(JOB, rules=rules)
        self.assertEqual(
            [JOB.leaves, plan.events, is_driven(plan), promised_end(plan)],
            [("a", "b", "c"), ("ab", "af", "bb", "cb", "cf"), True, 6],
        )
        self.assertEqual(plan, Plan(
            99, events=("ab", "af", "bb", "cb", "cf"), steps=(("bf", "bb", 1, 3, 0),),
            bounds=(
                ("ab", "af", 2), ("af", "ab", -1), ("bb", "af", 0), ("ab", "bf", 6), ("cb", "cf", 2), ("cf", "cb", -2),
                ("bf", "cb", 0), ("cb", "bf", 0),
            ),
        ))

    def test_leaves(self):
        self.assertEqual(compiled(Own("a", 0, 7), horizon=9), Plan(
            9, events=("ab", "af"), bounds=(("ab", "af", 7), ("af", "ab", 0)),
        ))
        for delay in (0, 3, 99, None):
            self.assertEqual(compiled(Other("a", 2, 7, delay=delay), horizon=9), Plan(
                9, events=("ab",), steps=(("af", "ab", 2, 7, delay),),
            ))
        self.assertEqual(compiled(Own("start", 1, 1)).events, ("startb", "startf"))

    def test_rows(self):
        own = {name: ((name + "b", name + "f", 2), (name + "f", name + "b", -1)) for name in "abcd"}
        plan = compiled(Row(A, B, C))
        self.assertEqual(set(plan.bounds), {*own["a"], *own["b"], *own["c"], ("bb", "af", 0), ("cb", "bf", 0)})
        plan = compiled(Row(Beside(A, B), Beside(C, D)))
        between = {(begin + "b", finish + "f", 0) for finish in "ab" for begin in "cd"}
        self.assertEqual(set(plan.bounds), {*own["a"], *own["b"], *own["c"], *own["d"], *between})
        # The first begins of a row are those of its first task, its last finishes those of its last one.
        plan = compiled(Row(Beside(Row(A, B), C), D))
        self.assertEqual(
            set(plan.bounds),
            {*own["a"], *own["b"], *own["c"], *own["d"], ("bb", "af", 0), ("db", "bf", 0), ("db", "cf", 0)},
        )
        plan = compiled(Row(D, Within(Beside(Row(A, B), C), 9)))
        self.assertEqual(
            set(plan.bounds),
            {
                *own["a"], *own["b"], *own["c"], *own["d"], ("bb", "af", 0), ("ab", "df", 0), ("cb", "df", 0),
                ("ab", "bf", 9), ("ab", "cf", 9), ("cb", "bf", 9),
            },
        )

    def test_withins(self):
        self.assertEqual(compiled(Within(A, 5)), compiled(A))
        self.assertEqual(compiled(Within(A, 1)).bound("ab", "af"), 1)
        self.assertEqual(compiled(Within(Other("a", 1, 4), 5)).bounds, (("ab", "af", 5),))
        self.assertEqual(compiled(Within(Within(A, 0), 1)).bound("ab", "af"), 0)
        self.assertEqual(compiled(Within(Within(A, 1), 0)).bound("ab", "af"), 0)
        self.assertEqual(compiled(Within(Row(A, B), 0)).bound("ab", "bf"), 0)
        self.assertEqual(compiled(Within(Row(A, B), 99)).bound("ab", "bf"), 99)
        self.assertIsNone(compiled(Within(Row(A, B, C), 3)).bound("bb", "cf"))

    def test_besides_have_no_bounds_between_their_tasks(self):
        self.assertEqual(set(compiled(Beside(A, B)).bounds), {*compiled(A).bounds, *compiled(B).bounds})

    def test_horizons(self):
        for horizon in (0, 1, 99):
            self.assertEqual(compiled(JOB, horizon=horizon).horizon, horizon)
        self.assertEqual(compiled(JOB).horizon, 99)

    def test_the_task_stays(self):
        before = str(JOB)
        compiled(JOB, rules=(("together", "a", "c"),))
        self.assertEqual(str(JOB), before)

    def test_limits(self):
        own = [Own(name, 1, 1) for name in "abcdefgh"]
        other = [Other(name, 1, 1) for name in "abcdefgh"]
        self.assertEqual(len(compiled(Row(*own[:5])).events), 10)
        self.keeps(TooMany, "limit", 10, compiled, Row(*own[:6]))
        self.keeps(TooMany, "limit", 10, compiled, Beside(*own))
        self.assertEqual(len(compiled(Beside(*other[:5])).steps), 5)
        self.keeps(TooMany, "limit", 5, compiled, Beside(*other[:6]))
        self.keeps(TooMany, "limit", 5, compiled, Beside(*other))
        plan = compiled(Beside(*other[:5], own[5], own[6]))
        self.assertEqual((len(plan.events), len(plan.steps)), (9, 5))
        plan = compiled(Beside(*other[:4], *own[4:7]))
        self.assertEqual((len(plan.events), len(plan.steps)), (10, 4))
        self.keeps(TooMany, "limit", 10, compiled, Beside(*other[:4], *own[4:8]))
        self.keeps(TooMany, "limit", 5, compiled, Beside(*other[:7], own[7]))
        self.assertEqual(compiled(Beside(*other[:5], own[5])), compiled(Beside(own[5], *other[:5])))

    def test_ten_events_and_five_steps(self):
        # Ten events with five steps would take six leaves or seven, of which five are of others.
        parts = [Other(name, 1, 2, delay=1) for name in "abcde"] + [Own("f", 0, 3), Own("g", 1, 1)]
        plan = compiled(Row(Beside(*parts[:5]), parts[5], parts[6]), horizon=60)
        self.assertEqual((len(plan.events), len(plan.steps), is_driven(plan)), (9, 5, True))
        self.assertEqual(promised_end(plan), 3)


class Rules(Case):
    def test_each_kind(self):
        task = Beside(A, B)
        bounds = set(compiled(task).bounds)
        for rule, more in (
            (("after", "a", "b", 3), {("bb", "af", -3)}), (("after", "b", "a", -3), {("ab", "bf", 3)}),
            (("soon", "a", "b", 3), {("af", "bb", 3)}), (("soon", "b", "a", -3), {("bf", "ab", -3)}),
            (("together", "a", "b"), {("ab", "bb", 0), ("bb", "ab", 0)}), (("after", "a", "b", 0), {("bb", "af", 0)}),
            (("together", "b", "a"), {("ab", "bb", 0), ("bb", "ab", 0)}), (("soon", "a", "b", 0), {("af", "bb", 0)}),
            (("after", "a", "b", 99), {("bb", "af", -99)}), (("after", "a", "b", -99), {("bb", "af", 99)}),
            (("soon", "a", "b", 99), {("af", "bb", 99)}), (("soon", "a", "b", -99), {("af", "bb", -99)}),
        ):
            self.assertEqual(set(compiled(task, rules=(rule,)).bounds), bounds | more)

    def test_of_several_bounds_the_least_counts(self):
        task = Row(A, B)
        for rules, expected in (
            ((), 0), ((("after", "a", "b", 2),), -2), ((("after", "a", "b", -2),), 0),
            ((("after", "a", "b", 2), ("after", "a", "b", 1)), -2), ((("after", "a", "b", 1), ("after", "a", "b", 2)), -2),
            ((("after", "a", "b", 2),) * 2, -2),
        ):
            self.assertEqual(compiled(task, rules=rules).bound("bb", "af"), expected)
        rules = (("soon", "a", "b", 4), ("soon", "a", "b", 3), ("soon", "a", "b", 5))
        self.assertEqual(compiled(task, rules=rules).bound("af", "bb"), 3)

    def test_the_order_does_not_matter(self):
        rules = (("after", "a", "b", 2), ("soon", "a", "b", 4), ("together", "a", "c"))
        for other in itertools.permutations(rules):
            self.assertEqual(compiled(JOB, rules=other), compiled(JOB, rules=rules))

    def test_what_are_no_rules(self):
        for value in ODD:
            if value != ():
                self.refuses(InvalidOperation, compiled, JOB, rules=value)
            self.refuses(InvalidOperation, compiled, JOB, rules=(value,))
            self.refuses(InvalidOperation, compiled, JOB, rules=(("together", "a", "b"), value))
            self.refuses(InvalidOperation, compiled, JOB, rules=(("after", "a", value, 1),))
            self.refuses(InvalidOperation, compiled, JOB, rules=(("after", value, "b", 1),))
            self.refuses(InvalidOperation, compiled, JOB, rules=((value, "a", "b", 1),))
            if type(value) is not int or not -99 <= value <= 99:
                self.refuses(InvalidOperation, compiled, JOB, rules=(("after", "a", "b", value),))
                self.refuses(InvalidOperation, compiled, JOB, rules=(("soon", "a", "b", value),))
        for rule in (
            ("after", "a", "b"), ("soon", "a", "b"), ("together", "a", "b", 0), ("after", "a", "a", 1), ("together", "c", "c"),
            ("soon", "b", "b", 0), ("after", "a", "d", 1), ("after", "d", "a", 1), ("after", "ab", "bb", 1), ["after", "a", "b", 1],
            ("before", "a", "b", 1), ("After", "a", "b", 1), ("after", "a", "b", 1, 1), ("after", "a", "b", 100),
            ("after", "a", "b", -100), ("soon", "a", "b", 100), ("soon", "a", "b", -100), ("after", "a", "b", True),
            ("soon", "a", "b", False), ("after", "a", "b", None), ("after",), ("together", "a"), (), "after", ("after", "a", "start", 1),
        ):
            self.refuses(InvalidOperation, compiled, JOB, rules=(rule,))
            self.refuses(InvalidOperation, compiled, JOB, rules=(("after", "a", "b", 1), rule))
        self.refuses(InvalidOperation, compiled, JOB, rules=[("after", "a", "b", 1)])
        self.refuses(InvalidOperation, compiled, JOB, rules=("after", "a", "b", 1))


class Errors(Case):
    def test_the_task_comes_first(self):
        for value in ODD + ("a 1..2", (JOB,)):
            if not isinstance(value, Task):
                self.refuses(InvalidTask, compiled, value)
                self.refuses(InvalidTask, compiled, value, horizon=-1, rules=None)

    def test_horizons_come_next(self):
        many = Beside(*[Own(name, 1, 1) for name in "abcdef"])
        for value in ODD + (-1, 100, True):
            if type(value) is not int or not 0 <= value <= 99:
                self.keeps(InvalidNumber, "value", value, compiled, JOB, horizon=value)
                self.keeps(InvalidNumber, "value", value, compiled, JOB, rules=None, horizon=value)
                self.keeps(InvalidNumber, "value", value, compiled, many, rules=("x",), horizon=value)
        self.refuses(InvalidOperation, compiled, many, rules=None)
        self.refuses(InvalidOperation, compiled, many, rules=(("after", "a", "b", 100),))

    def test_by_keyword(self):
        rules = (("together", "a", "c"),)
        self.assertEqual(compiled(rules=rules, horizon=9, task=JOB), compiled(JOB, horizon=9, rules=rules))


class Kept(Case):
    def check(self, task, names, keeps, rules, plan, times):
        spans = spans_in(times, names)
        expected = keeps(spans) and are_rules_kept(rules, spans)
        self.assertIs(are_kept(plan, times), expected, (str(task), rules, times))
        self.assertIs(task.keeps(spans), keeps(spans))
        return expected

    def test_all_times_of_small_tasks(self):
        chance = random.Random(571)
        seen = {True: 0, False: 0}
        for drawn in task_answers.some_tasks(150, 572, leaves=3, longest=2):
            rules = some_rules(chance, drawn.names, 1)
            plan = compiled(drawn.task, horizon=chance.choice((2, 3)), rules=rules)
            if len(plan.events) > 5:
                continue
            for durations in time_answers.durations_in_order(plan):
                for done in time_answers.doings(plan):
                    times = times_of(plan, done, durations)
                    seen[self.check(drawn.task, drawn.names, drawn.keeps, rules, plan, times)] += 1
        self.assertGreater(min(seen.values()), 500)

    def test_times_of_larger_tasks(self):
        chance = random.Random(573)
        seen = {True: 0, False: 0}
        for drawn in task_answers.some_tasks(300, 574, leaves=5, longest=3):
            rules = some_rules(chance, drawn.names)
            plan = compiled(drawn.task, horizon=40, rules=rules) if fits(drawn.task) else None
            for _ in range(40 if plan else 0):
                times = {"start": 0}
                tick = 0
                for name in drawn.names:
                    begin = max(0, tick + chance.choice((-3, 0, 0, 0, 1)))
                    step = [step for step in plan.steps if step[0] == name + "f"]
                    many = chance.randint(step[0][2], step[0][3]) if step else chance.randint(0, 3)
                    times[name + "b"], times[name + "f"] = begin, begin + many
                    tick = begin + many if chance.random() < 0.8 else begin
                seen[self.check(drawn.task, drawn.names, drawn.keeps, rules, plan, times)] += 1
        self.assertGreater(min(seen.values()), 500)

    def test_drivers_of_compiled_plans(self):
        chance = random.Random(575)
        decided = {True: 0, False: 0}
        for drawn in task_answers.some_tasks(150, 576, leaves=4, longest=3):
            rules = some_rules(chance, drawn.names)
            plan = compiled(drawn.task, horizon=chance.choice((4, 8, 30)), rules=rules)
            self.assertIs(is_paper(plan, paper_of(plan)), True)
            decided[is_driven(plan)] += 1
            if not is_driven(plan):
                continue
            for driver in (EagerDriver(plan), TableDriver(plan, derived_paper(plan))):
                for durations in all_durations(plan):
                    done, run = drive(driver, durations)
                    spans = spans_in(run.finished(durations), drawn.names)
                    self.assertIs(drawn.task.keeps(spans), True)
                    self.assertIs(are_rules_kept(rules, spans), True)
        self.assertGreater(min(decided.values()), 30)


def fits(task):
    try:
        compiled(task)
    except TooMany:
        return False
    return True


if __name__ == "__main__":
    unittest.main()
