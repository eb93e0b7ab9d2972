"""Texts of plans, runs, papers and policies, which are written and read again ([20.1], stage 20)."""

import random
import unittest

from heardlate.errors import InvalidPlan, InvalidPolicy, InvalidRun, InvalidTable, ParseError
from heardlate.facts.decided import is_paper, paper_of
from heardlate.plans.plans import Plan
from heardlate.runs.policies import played
from heardlate.runs.runs import Run
from heardlate.text import formats as module
from heardlate.text.formats import (
    format_paper, format_plan, format_policy, format_run, parse_paper, parse_plan, parse_policy, parse_run,
)
from tests import policy_answers, text_answers, time_answers
from tests.samples import EARLY, EXACT, FIVE_STEPS, FORTY, NEAR, ODD, RARE, TEN_EVENTS, Case

TEXT = "plan 10\nevent v\nstep c start 1 5 0\nbound c v 1\nbound v c 2"
TWO = Plan(9, events=("v", "w"), steps=(("c", "start", 1, 4, 1), ("d", "v", 2, 3, 0)), bounds=(("v", "w", -5),))
# What no text has, whatever is written.
WRONG = (
    lambda text: text + "\n", lambda text: "\n" + text, lambda text: text + " ", lambda text: " " + text, lambda text: text + "\n\n",
    lambda text: text.replace(" ", "  ", 1), lambda text: text.replace("\n", "\n\n", 1), lambda text: text.replace("\n", " \n", 1),
    lambda text: text.replace("\n", "\n ", 1), lambda text: text.replace(" ", "\t", 1), lambda text: text.replace("\n", "\r\n", 1),
    lambda text: text.upper(), lambda text: text.replace("\n", " ", 1), lambda text: "", lambda text: text[:-1] + "\n" + text[-1:],
)
WRONG_NUMBERS = ("-0", "+1", "01", "00", "-01", "1.0", "1e1", "one", "", "--1", "1-", "0x1", "1_0", "1" * 41, "-" + "1" * 41)


def small_plans(many, seed):
    return list(time_answers.some_plans(many, seed, steps=3))


class Forms(Case):
    def refuse_near(self, parse, text):
        """Checks that no text which differs in what no text has can be read."""
        for wrong in WRONG:
            if wrong(text) != text:
                self.refuses(ParseError, parse, wrong(text))

    def read_or_refuse(self, parse, write, text, chance, many=40, more=()):
        """Checks that nearly right texts cannot be read, or are written again as they are."""
        for _ in range(many):
            other = text_answers.nearly(text, chance)
            try:
                value = parse(other)
            except (ParseError, *more):
                continue
            self.assertEqual(write(value), other)


class Plans(Forms):
    def test_modules(self):
        for name in ("plan", "run", "paper", "policy"):
            for word in ("format_", "parse_"):
                self.assertEqual(getattr(module, word + name).__module__, "heardlate.text.formats")

    def test_examples(self):
        self.assertEqual(format_plan(NEAR), TEXT)
        self.assertEqual(parse_plan(TEXT), NEAR)
        self.assertEqual(format_plan(Plan(0)), "plan 0")
        self.assertEqual(parse_plan("plan 99"), Plan(99))
        text = "plan 9\nevent v\nevent w\nstep c start 1 4 never\nstep d v 2 3 99\nbound c d -999\nbound d c 999"
        plan = TWO.deaf("c").with_delay("d", 99).without_bound("v", "w").with_bound("c", "d", -999).with_bound("d", "c", 999)
        self.assertEqual((format_plan(plan), parse_plan(text)), (text, plan))

    def test_all_plans(self):
        full = Plan(99, events=TEN_EVENTS, steps=FIVE_STEPS, bounds=tuple(
            (u, v, w) for w, (u, v) in enumerate((u, v) for u in TEN_EVENTS for v in FIVE_STEPS[0][0])
        ))
        for plan in (*small_plans(200, 601), *RARE, EXACT, full):
            text = format_plan(plan)
            self.assertEqual(text, text_answers.plan_text(plan))
            self.assertEqual((parse_plan(text), format_plan(parse_plan(text))), (plan, text))

    def test_near_texts(self):
        chance = random.Random(602)
        self.refuse_near(parse_plan, TEXT)
        self.refuse_near(parse_plan, "plan 0")
        for plan in (NEAR, TWO, *small_plans(40, 603)):
            self.read_or_refuse(parse_plan, format_plan, format_plan(plan), chance)

    def test_numbers(self):
        for number in WRONG_NUMBERS:
            for text in (
                f"plan {number}", f"plan 10\nevent v\nbound start v {number}", f"plan 10\nstep c start {number} 5 0",
                f"plan 10\nstep c start 1 {number} 0", f"plan 10\nstep c start 1 5 {number}",
            ):
                self.refuses(ParseError, parse_plan, text)
        for text in (
            "plan 100", "plan -1", "plan never", "plan 10\nevent v\nbound start v 1000", "plan 10\nevent v\nbound start v -1000",
            "plan 10\nstep c start 0 5 0", "plan 10\nstep c start 5 1 0", "plan 10\nstep c start 1 100 0", "plan 10\nstep c start 1 5 100",
            "plan 10\nstep c start 1 5 -1", "plan 10\nevent v\nbound start v never", "plan " + "9" * 40, "plan " + "9" * 41,
        ):
            self.refuses(ParseError, parse_plan, text)

    def test_what_is_no_plan(self):
        for text in (
            "plan", "plan 1 2", "Plan 10", "plans 10", "event v", "plan 10\nevent", "plan 10\nevent v w", "plan 10\nevent V",
            "plan 10\nevent abcdefghi", "plan 10\nevent start", "plan 10\nevent v\nevent v", "plan 10\nstep c start 1 5",
            "plan 10\nstep c start 1 5 0 0", "plan 10\nstep c v 1 5 0", "plan 10\nstep c c 1 5 0", "plan 10\nbound start v 1",
            "plan 10\nevent v\nbound v v 1", "plan 10\nevent v\nbound start v", "plan 10\nevent v\nbound start v 1 1",
            "plan 10\nevent v\nbound start v 1\nbound start v 2", "plan 10\nevent v\nbound start v 1\nbound start v 1",
            "plan 10\nplan 10", "plan 10\nhorizon 9", "plan 10\nevent v\nstep v start 1 5 0", "plan 10\nstep c start 1 5 Never",
            "plan 10\nstep c start 1 5 None", "plan 10\n", "plan 10\nevent 5",
        ):
            self.refuses(ParseError, parse_plan, text)

    def test_orders(self):
        for text in (
            "plan 10\nevent w\nevent v", "plan 10\nstep d start 1 5 0\nstep c start 1 5 0", "event v\nplan 10",
            "plan 10\nevent v\nbound v start 2\nbound start v 1", "plan 10\nstep c start 1 5 0\nevent v",
            "plan 10\nevent v\nbound start v 1\nstep c start 1 5 0", "plan 10\nevent v\nbound start v 1\nevent w",
        ):
            self.refuses(ParseError, parse_plan, text)

    def test_limits(self):
        ten = "plan 9\n" + "\n".join("event " + name for name in TEN_EVENTS)
        five = "plan 9\n" + "\n".join(f"step {end} start 1 2 0" for end in "pqrst")
        self.assertEqual((len(parse_plan(ten).events), len(parse_plan(five).steps)), (10, 5))
        self.refuses(ParseError, parse_plan, ten + "\nevent k")
        self.refuses(ParseError, parse_plan, five + "\nstep u start 1 2 0")

    def test_other_values(self):
        for value in ODD + (b"plan 10", ["plan 10"], TEXT.split("\n")):
            self.refuses(ParseError, parse_plan, value)
            if not isinstance(value, Plan):
                self.refuses(InvalidPlan, format_plan, value)

    def test_by_keyword(self):
        self.assertEqual(parse_plan(text=format_plan(plan=NEAR)), NEAR)


class Runs(Forms):
    def test_examples(self):
        run = Run(NEAR).wait(ticks=3)
        self.assertEqual((format_run(Run(NEAR)), format_run(run)), ("run 0 before", "run 3 before"))
        self.assertEqual(format_run(run.hear()), "run 3 behind")
        run = run.hear("c").do("v")
        self.assertEqual(format_run(run), "run 3 behind\nheard 3 c\ndone 3 v")
        self.assertEqual(format_run(run.wait()), "run 4 before\nheard 3 c\ndone 3 v")
        self.assertEqual(parse_run(NEAR, "run 4 before\nheard 3 c\ndone 3 v"), run.wait())
        # An end is told at the tick in which it was heard, not when it happened.
        late = Run(TWO).do("w", "v").wait(ticks=3).hear("c", "d")
        self.assertEqual(format_run(late), "run 3 behind\ndone 0 v w\nheard 3 c d")
        self.assertEqual(late.times["c"], 2)
        self.assertEqual(parse_run(TWO, "run 3 behind\ndone 0 v w\nheard 3 c d"), late)

    def test_all_runs(self):
        chance = random.Random(611)
        many = 0
        for run in text_answers.some_runs([*small_plans(80, 612), NEAR, TWO, *RARE], chance):
            text = format_run(run)
            self.assertEqual(text, text_answers.run_text(run))
            self.assertEqual(parse_run(run.plan, text), run)
            many += "heard" in text and "done" in text
        self.assertGreater(many, 100)

    def test_near_texts(self):
        chance = random.Random(613)
        self.refuse_near(lambda text: parse_run(NEAR, text), "run 3 behind\nheard 3 c\ndone 3 v")
        self.refuse_near(lambda text: parse_run(NEAR, text), "run 0 before")
        for run in list(text_answers.some_runs([TWO, NEAR, *RARE], chance))[::5]:
            self.read_or_refuse(lambda text: parse_run(run.plan, text), format_run, format_run(run), chance, more=(InvalidRun,))

    def test_both_sides_of_the_news(self):
        text = "heard 3 c"
        self.assertEqual(parse_run(NEAR, "run 3 behind\n" + text), Run(NEAR).wait(ticks=3).hear("c"))
        self.refuses(ParseError, parse_run, NEAR, "run 3 before\n" + text)
        self.assertEqual(parse_run(NEAR, "run 4 before\n" + text), Run(NEAR).wait(ticks=3).hear("c").wait())
        self.assertEqual(parse_run(NEAR, "run 4 behind\n" + text), Run(NEAR).wait(ticks=3).hear("c").wait().hear())
        self.refuses(ParseError, parse_run, NEAR, "run 2 behind\n" + text)
        self.refuses(ParseError, parse_run, NEAR, "run 0 before\ndone 0 v")
        self.assertEqual(parse_run(NEAR, "run 0 behind\ndone 0 v"), Run(NEAR).do("v"))

    def test_the_last_tick(self):
        end = Run(NEAR).wait(ticks=5).hear("c").wait(ticks=395)
        for run, side in ((end, "before"), (end.hear(), "behind")):
            self.assertEqual(format_run(run), f"run 400 {side}\nheard 5 c")
            self.assertEqual(parse_run(NEAR, format_run(run)), run)
            self.refuses(ParseError, parse_run, NEAR, f"run 401 {side}\nheard 5 c")
            self.refuses(ParseError, parse_run, NEAR, f"run 4000 {side}\nheard 5 c")
        # The form of a run, but at this tick something else must have been heard.
        self.refuses(InvalidRun, parse_run, NEAR, "run 400 before")

    def test_no_runs_of_the_plan(self):
        for text in (
            "run 6 before", "run 5 behind", "run 3 behind\nheard 3 d", "run 3 behind\nheard 3 v", "run 3 behind\ndone 3 c",
            "run 3 behind\nheard 0 c", "run 9 behind\nheard 6 c", "run 3 behind\ndone 3 start", "run 3 behind\nheard 3 c start",
            "run 9 behind\nheard 3 c\nheard 4 c", "run 3 behind\ndone 1 v\ndone 2 v", "run 30 behind\nheard 3 c\ndone 11 v",
            "run 3 behind\nheard 3 abcdefgh", "run 3 behind\nheard 3 c d", "run 3 behind\ndone 2 v\nheard 3 v",
        ):
            self.refuses(InvalidRun, parse_run, NEAR, text)
        self.refuses(InvalidRun, parse_run, Plan(3), "run 3 behind\nheard 3 c\ndone 3 v")
        self.refuses(InvalidRun, parse_run, NEAR.deaf(), "run 3 behind\nheard 3 c")

    def test_what_is_no_run(self):
        for text in (
            "run", "run 3", "run before", "run 3 behind before", "run 3 Behind", "run 3 beside", "Run 3 before", "run -1 before",
            "run 3 behind\nheard 3", "run 3 behind\nheard c", "run 3 behind\nheard", "run 3 behind\ndone 3", "run 3 behind\n3 heard c",
            "run 3 behind\nheard -1 c", "run 3 behind\nheard 3 C", "run 3 behind\nheard 3 abcdefghi", "run 3 behind\nheard 3 3",
            "run 3 behind\nheard 3 c c", "run 3 behind\nheard 3 d c", "run 3 behind\ndone 3 w v", "run 3 behind\ndone 3 v v",
            "run 3 behind\ndone 3 v\nheard 3 c", "run 3 behind\ndone 3 v\ndone 2 w", "run 3 behind\nheard 3 c\nheard 3 d",
            "run 3 behind\nheard 3 c\nheard 3 c", "run 3 behind\nheard 3 c\ndone 2 v", "run 3 behind\nheard 4 c", "heard 3 c\nrun 3 behind",
            "run 3 behind\nrun 3 behind", "run 3 behind\nwait 3 c", "run 3 behind\nheard 3 c\nrun 3 behind", "run 3 before\nheard 400 c",
        ):
            for plan in (NEAR, TWO, Plan(0)):
                self.refuses(ParseError, parse_run, plan, text)
        for number in WRONG_NUMBERS:
            self.refuses(ParseError, parse_run, NEAR, f"run {number} before")
            self.refuses(ParseError, parse_run, NEAR, f"run 9 before\nheard {number} c")
        self.refuses(ParseError, parse_run, NEAR, "run " + "9" * 40 + " before")
        self.refuses(ParseError, parse_run, NEAR, "run 9 before\nheard " + "9" * 40 + " c")

    def test_parameters(self):
        for value in ODD:
            if not isinstance(value, Run):
                self.refuses(InvalidRun, format_run, value)
            self.refuses(ParseError, parse_run, NEAR, value)
            if not isinstance(value, Plan):
                self.refuses(InvalidPlan, parse_run, value, "run 0 before")
                self.refuses(InvalidPlan, parse_run, value, "run 6 before")
                self.refuses(InvalidPlan, parse_run, value, None)
        self.assertEqual(parse_run(text=format_run(run=Run(NEAR)), plan=NEAR), Run(NEAR))


class Papers(Forms):
    def test_examples(self):
        begun = ((("plain", "c", "v"), -1, "given", ()), (("plain", "start", "v"), 0, "early", (0,)))
        rows = begun + ((("plain", "v", "c"), 1, "given", ()), (("late", "v", "c"), -4, "late", (2,)))
        text = (
            "refuted\nplain c v -1 given\nplain start v 0 early 0\nplain v c 1 given\nlate v c -4 late 2\nring 1 3"
        )
        self.assertEqual(format_paper(EXACT, ("refuted", rows, (1, 3))), text)
        self.assertEqual(parse_paper(text), ("refuted", rows, (1, 3)))
        paper = ("table", {("start", "start"): 0}, {}, {"start": 4})
        self.assertEqual(format_paper(Plan(0), paper), "table\nplain start start 0\nnumber start 4")
        self.assertEqual(parse_paper("table\nplain start start 0\nnumber start 4"), paper)
        self.assertEqual(format_paper(Plan(0), paper_of(Plan(0))), "table\nplain start start 0\nnumber start 0")

    def test_all_papers(self):
        kinds = {"table": 0, "refuted": 0}
        for plan in (*small_plans(200, 621), *RARE):
            paper = paper_of(plan)
            text = format_paper(plan, paper)
            self.assertEqual(text, text_answers.paper_text(paper))
            read = parse_paper(text)
            self.assertEqual((read, format_paper(plan, read)), (paper, text))
            self.assertIs(is_paper(plan, read), True)
            kinds[paper[0]] += 1
        self.assertGreater(min(kinds.values()), 50)

    def test_plans_at_the_limits(self):
        plan = Plan(99, events=TEN_EVENTS, steps=FIVE_STEPS)
        paper = paper_of(plan)
        self.assertEqual(parse_paper(format_paper(plan, paper)), paper)

    def test_keys_ascend(self):
        paper = paper_of(NEAR)
        turned = ("table", *({key: part[key] for key in reversed(list(part))} for part in paper[1:]))
        self.assertEqual(format_paper(NEAR, turned), format_paper(NEAR, paper))
        for part in parse_paper(format_paper(NEAR, turned))[1:]:
            self.assertEqual(list(part), sorted(part))
            part.clear()
        self.assertEqual(parse_paper(format_paper(NEAR, turned)), paper)

    def test_papers_of_no_plan(self):
        for value in (
            ("table", {("a", "a"): 5}, {}, {"a": -5}), ("table", {("a", "a"): -FORTY}, {("a", "a"): FORTY}, {"a": 0}),
            ("table", {(u, v): 1 for u in "ab" for v in "ab"}, {(u, "b"): -1 for u in "ab"}, {"a": 1, "b": 99}),
            ("table", {(u, v): 1 for u in "ab" for v in "ab"}, {(u, v): -1 for u in "ab" for v in "ab"}, {"b": 1, "a": 99}),
            ("refuted", ((("late", "x", "y"), FORTY, "given", ()),), (0,)),
            ("refuted", ((("plain", "x", "x"), 0, "chain", ()), (("late", "x", "x"), 1, "given", (0, 0, 0))), (1, 1, 0, 1)),
            ("refuted", tuple((("plain", "do", "ring"), 0, rule, ()) for rule in (
                "given", "chain", "late", "through", "early", "release",
            )), (5,)),
            paper_of(EXACT), paper_of(TWO),
        ):
            for plan in (NEAR, Plan(0)):
                text = format_paper(plan, value)
                self.assertEqual(text, text_answers.paper_text(value))
                self.assertEqual(parse_paper(text), value)

    def test_near_texts(self):
        chance = random.Random(622)
        for plan in (NEAR, EXACT, Plan(0), *RARE):
            text = format_paper(plan, paper_of(plan))
            self.refuse_near(parse_paper, text)
            self.read_or_refuse(parse_paper, lambda value: format_paper(plan, value), text, chance, 60)

    def test_what_has_not_the_form(self):
        table, refuted = paper_of(NEAR), paper_of(EXACT)
        word, plain, late, numbers = table
        small = {("a", "a"): 0}
        row = (("plain", "a", "b"), 0, "given", ())
        values = ODD_PAPERS + (
            (word, plain, late), (word, plain, late, {}), table + (None,), list(table), (word, {}, {}, {}), ("table", small, {}, {"b": 0}),
            ("table", small, {}, {"a": True}), ("table", small, {}, {"a": None}), ("table", {("a", "a"): True}, {}, {"a": 0}),
            ("table", {("a", "a"): "0"}, {}, {"a": 0}), ("table", {}, {}, {"a": 0}), ("table", {("a", "b"): 0}, {}, {"a": 0}),
            ("table", {**small, ("a", "b"): 0}, {}, {"a": 0}), ("table", small, {("a", "b"): 0}, {"a": 0}),
            ("table", small, {("b", "a"): 0}, {"a": 0}), ("table", small, {"a": 0}, {"a": 0}), ("table", small, {("a",): 0}, {"a": 0}),
            ("table", small, {("a", "a"): False}, {"a": 0}), ("table", {"aa": 0}, {}, {"a": 0}), ("table", {("A", "A"): 0}, {}, {"A": 0}),
            ("table", {(1, 1): 0}, {}, {1: 0}), ("table", plain, {pair: 0 for pair in late if pair != ("v", "c")}, numbers),
            ("table", plain, {**late, ("v", "v"): 0}, numbers), ("table", plain, late, {**numbers, "x": 0}),
            ("table", {pair: plain[pair] for pair in list(plain)[1:]}, late, numbers), ("table", list(plain), late, numbers),
            ("table", small, (), {"a": 0}), ("table", small, [], {"a": 0}), ("table", small, {}, ["a"]), ("table", small, None, {"a": 0}),
            ("table", small, {}, None), ("table", None, {}, {"a": 0}), ("table", [("a", "a")], {}, {"a": 0}), ("table", small, {5: 0}, {"a": 0}),
            ("table", small, {None: 0}, {"a": 0}), ("table", small, {True: 0}, {"a": 0}), ("table", small, {}, {"a": FORTY + 1}),
            ("table", small, {("a", "a", "a"): 0}, {"a": 0}), ("table", small, ((("a", "a"), 0),), {"a": 0}), ("Table", small, {}, {"a": 0}),
            ("refuted", (), ()), ("refuted", (row,), ()), ("refuted", (), (0,)), ("refuted", (row,), (1,)), ("refuted", (row,), (-1,)),
            ("refuted", (row,), (True,)), ("refuted", (row,), [0]), ("refuted", [row], (0,)), ("refuted", (row,)), ("refuted", (row,), (0,), 1),
            ("refuted", (list(row),), (0,)), ("refuted", (row[:3],), (0,)), ("refuted", (row + (1,),), (0,)), list(refuted),
            ("refuted", (row, (("plain", "a", "b"), 0, "chain", (1,))), (0,)), ("refuted", (row, row[:3] + ((True,),)), (0,)),
            ("refuted", (row, row[:3] + ([0],)), (0,)), ("refuted", (row, row[:3] + ((-1,),)), (0,)), ("refuted", (row[:3] + ((0,),),), (0,)),
            ("refuted", ((("plain", "a"), 0, "given", ()),), (0,)), ("refuted", ((("plain", "a", "B"), 0, "given", ()),), (0,)),
            ("refuted", ((("given", "a", "b"), 0, "given", ()),), (0,)), ("refuted", ((["plain", "a", "b"], 0, "given", ()),), (0,)),
            ("refuted", ((("plain", "a", "b"), True, "given", ()),), (0,)), ("refuted", ((("plain", "a", "b"), None, "given", ()),), (0,)),
            ("refuted", ((("plain", "a", "b"), 0, "Given", ()),), (0,)), ("refuted", ((("plain", "a", "b"), 0, None, ()),), (0,)),
            ("refuted", ((("plain", "a", "b"), 0, "rule", ()),), (0,)), ("refuted", ((("plain", 1, "b"), 0, "given", ()),), (0,)),
            (), ("table",), ("refuted",), "table", (row,),
        )
        for value in values:
            self.refuses(InvalidTable, format_paper, NEAR, value)

    def test_what_is_no_text_of_a_paper(self):
        for text in (
            "table", "refuted", "ring 0", "refuted\nring 0", "refuted\nplain a b 0 given", "refuted\nplain a b 0 given\nring",
            "refuted\nplain a b 0 given\nring 1", "refuted\nplain a b 0 given\nring 0\nring 0", "refuted\nring 0\nplain a b 0 given",
            "refuted\nplain a b 0\nring 0", "refuted\nplain a b given\nring 0", "refuted\nplain a 0 given\nring 0",
            "refuted\nplain a b 0 rule\nring 0", "refuted\nplain a b 0 given 0\nring 0", "refuted\nplain a b 0 given x\nring 0",
            "refuted\nfact a b 0 given\nring 0", "refuted\nplain A b 0 given\nring 0", "refuted\nplain a b 0 given\nring 00",
            "refuted\nplain a b 0 given\nring -0", "refuted\nplain a b 0 given\nring 0 x", "table\nnumber a 0", "table\nplain a a 0",
            "table\nnumber a 0\nplain a a 0", "table\nplain a a 0\nnumber a 0\nnumber a 0", "table\nplain a a 0\nplain a a 0\nnumber a 0",
            "table\nplain a a 0\nlate a b 0\nnumber a 0", "table\nplain a a 0\nnumber a 0\nlate a a 0", "table\nplain a a 0\nnumber a",
            "table\nplain a a\nnumber a 0", "table\nplain a a 0 0\nnumber a 0", "table\nplain A A 0\nnumber A 0", "Table\nplain a a 0\nnumber a 0",
            "table 1\nplain a a 0\nnumber a 0", "table\nplain a a never\nnumber a 0", "refuted 1\nplain a b 0 given\nring 0",
            "table\nplain a a 0\nplain b a 0\nplain a b 0\nplain b b 0\nnumber a 0\nnumber b 0",
            "table\nplain a a 0\nplain a b 0\nplain b a 0\nplain b b 0\nnumber b 0\nnumber a 0",
            "table\nplain a a 0\nplain a b 0\nplain b b 0\nnumber a 0\nnumber b 0", "paper\nplain a a 0\nnumber a 0",
            "table\nplain a a 0\nlate a a 0\nring 0", "refuted\nplain a b 0 given\nnumber a 0\nring 0",
        ):
            self.refuses(ParseError, parse_paper, text)
        for number in WRONG_NUMBERS:
            for text in (
                f"table\nplain a a {number}\nnumber a 0", f"table\nplain a a 0\nlate a a {number}\nnumber a 0",
                f"table\nplain a a 0\nnumber a {number}", f"refuted\nplain a b {number} given\nring 0",
                f"refuted\nplain a b 0 given\nplain a b 0 chain {number}\nring 0", f"refuted\nplain a b 0 given\nring {number}",
            ):
                self.refuses(ParseError, parse_paper, text)

    def test_forty_digits(self):
        for number in (FORTY, -FORTY, 10 ** 39):
            text = f"table\nplain a a {number}\nnumber a {-number}"
            self.assertEqual(parse_paper(text), ("table", {("a", "a"): number}, {}, {"a": -number}))
            self.assertEqual(format_paper(NEAR, parse_paper(text)), text)
        for number in (FORTY + 1, -FORTY - 1):
            self.refuses(ParseError, parse_paper, f"table\nplain a a {number}\nnumber a 0")

    def test_parameters(self):
        for value in ODD:
            self.refuses(ParseError, parse_paper, value)
            if not isinstance(value, Plan):
                self.refuses(InvalidPlan, format_paper, value, paper_of(NEAR))
                self.refuses(InvalidPlan, format_paper, value, None)
        self.assertEqual(parse_paper(text=format_paper(value=paper_of(NEAR), plan=NEAR)), paper_of(NEAR))

    def test_arguments_stay(self):
        paper = paper_of(NEAR)
        format_paper(NEAR, paper)
        self.assertEqual(paper, paper_of(NEAR))


def is_paper_form(value):
    return isinstance(value, tuple) and len(value) > 1 and value[0] in ("table", "refuted") and not isinstance(value[1], str)


ODD_PAPERS = tuple(value for value in ODD if not is_paper_form(value))


class Policies(Forms):
    def test_examples(self):
        policy = {(3, (("c", 2), ("d", 3))): ("v", "w"), (0, ()): ("v",), (1, ()): (), (1, (("c", 0),)): ()}
        text = "policy\nat 0 heard do v\nat 1 heard do\nat 1 heard c 0 do\nat 3 heard c 2 d 3 do v w"
        self.assertEqual(format_policy(TWO, policy), text)
        self.assertEqual((parse_policy(text), list(parse_policy(text))), (policy, sorted(policy)))
        self.assertEqual((format_policy(NEAR, {}), parse_policy("policy")), ("policy", {}))

    def test_all_policies(self):
        many = 0
        for plan, policy in policy_answers.some_policies(150, 631, steps=3):
            text = format_policy(plan, policy)
            self.assertEqual(text, text_answers.policy_text(policy))
            read = parse_policy(text)
            self.assertEqual((read, list(read), format_policy(plan, read)), (policy, sorted(policy), text))
            many += len(policy)
        self.assertGreater(many, 500)

    def test_an_end_that_is_called_do(self):
        plan = Plan(9, events=("at", "heard"), steps=(("do", "start", 1, 3, 0), ("z", "start", 1, 3, 0)))
        policy = {
            (2, (("do", 1),)): ("at", "heard"), (2, (("do", 1), ("z", 2))): (), (2, (("do", 2),)): ("at",), (3, ()): ("heard",),
        }
        text = (
            "policy\nat 2 heard do 1 do at heard\nat 2 heard do 1 z 2 do\nat 2 heard do 2 do at\nat 3 heard do heard"
        )
        self.assertEqual((format_policy(plan, policy), parse_policy(text)), (text, policy))
        # As an event it can stand behind do, too.
        self.assertEqual(parse_policy("policy\nat 2 heard do do"), {(2, ()): ("do",)})
        self.assertEqual(parse_policy("policy\nat 2 heard do 5 do do"), {(2, (("do", 5),)): ("do",)})
        self.refuses(ParseError, parse_policy, "policy\nat 2 heard do 5")
        self.refuses(ParseError, parse_policy, "policy\nat 2 heard do 05 do")

    def test_any_names(self):
        text = "policy\nat 99 heard start 0 zz 198 do start zz"
        self.assertEqual(parse_policy(text), {(99, (("start", 0), ("zz", 198))): ("start", "zz")})

    def test_near_texts(self):
        chance = random.Random(632)
        plan = Plan(99, events=("c", "v", "w"), steps=(("a", "start", 1, 99, 0), ("d", "v", 1, 99, 0)))
        policy = {(3, (("a", 2), ("d", 3))): ("v", "w"), (0, ()): ("c", "v"), (1, ()): (), (1, (("a", 0),)): ()}
        text = format_policy(plan, policy)
        self.refuse_near(parse_policy, text)
        self.read_or_refuse(parse_policy, text_answers.policy_text, text, chance, 2000)

    def test_numbers(self):
        for number in WRONG_NUMBERS + ("-1", "199", "9" * 40):
            self.refuses(ParseError, parse_policy, f"policy\nat {number} heard do v")
            self.refuses(ParseError, parse_policy, f"policy\nat 0 heard c {number} do v")
        self.refuses(ParseError, parse_policy, "policy\nat 100 heard do v")
        self.assertEqual(len(parse_policy("policy\nat 99 heard c 198 do v")), 1)

    def test_what_is_no_policy(self):
        for text in (
            "Policy", "policy 1", "policies", "at 0 heard do v", "policy\nat 0 heard", "policy\nat 0 heard v", "policy\nat 0 do v",
            "policy\nheard do v", "policy\nat heard do v", "policy\n0 heard do v", "policy\nat 0 heard c do v", "policy\nat 0 heard c 1",
            "policy\nat 0 heard c 1 d do v", "policy\nat 0 heard 1 c do v", "policy\nat 0 heard c 1 c 2 do v", "policy\nat 0 heard d 1 c 2 do v",
            "policy\nat 0 heard c 1 c 1 do v", "policy\nat 0 heard do w v", "policy\nat 0 heard do v v", "policy\nat 0 heard do V",
            "policy\nat 0 heard C 1 do v", "policy\nat 0 heard abcdefghi 1 do v", "policy\nat 0 heard do abcdefghi", "policy\nat 0 heard do 5 v",
            "policy\nat 1 heard do v\nat 0 heard do v", "policy\nat 0 heard do v\nat 0 heard do v", "policy\nat 0 heard do v\nat 0 heard do w",
            "policy\nat 0 heard c 1 do v\nat 0 heard do v", "policy\nat 2 heard do\nat 10 heard do\nat 1 heard do", "policy\npolicy",
            "policy\nat 0 Heard do v", "policy\nat 0 heard Do v", "policy\nAt 0 heard do v", "policy\nat 0 0 heard do v",
        ):
            self.refuses(ParseError, parse_policy, text)
        # Pairs ascend by their numbers, not by their texts.
        self.assertEqual(len(parse_policy("policy\nat 2 heard do\nat 10 heard do")), 2)
        self.assertEqual(len(parse_policy("policy\nat 2 heard c 9 do\nat 2 heard c 10 do")), 2)
        self.refuses(ParseError, parse_policy, "policy\nat 10 heard do\nat 2 heard do")

    def test_two_thousand_pairs(self):
        plan = Plan(99, events=("v",), steps=(("c", "start", 1, 99, 0),))
        policy = {(tick, (("c", at),)): ("v",) for tick in range(20) for at in range(100)}
        text = format_policy(plan, policy)
        self.assertEqual((len(text.split("\n")), parse_policy(text)), (2001, policy))
        self.refuses(ParseError, parse_policy, text + "\nat 20 heard do v")
        self.refuses(InvalidPolicy, format_policy, plan, {**policy, (20, ()): ("v",)})

    def test_parameters(self):
        for value in ODD:
            self.refuses(ParseError, parse_policy, value)
            if not isinstance(value, Plan):
                self.refuses(InvalidPlan, format_policy, value, EARLY)
                self.refuses(InvalidPlan, format_policy, value, None)
            if value not in ({}, EARLY):
                self.refuses(InvalidPolicy, format_policy, NEAR, value)
        self.refuses(InvalidPolicy, format_policy, NEAR, {(0, ()): ("w",)})
        self.refuses(InvalidPolicy, format_policy, NEAR, {(11, ()): ("v",)})
        self.assertEqual(parse_policy(text=format_policy(policy=EARLY, plan=NEAR)), EARLY)

    def test_what_is_read_does_the_same(self):
        read = parse_policy(format_policy(NEAR, EARLY))
        for c in range(1, 6):
            self.assertEqual(played(NEAR, read, {"c": c}), played(NEAR, EARLY, {"c": c}))

    def test_nothing_stays(self):
        text = format_policy(NEAR, EARLY)
        parse_policy(text).clear()
        self.assertEqual(parse_policy(text), EARLY)


if __name__ == "__main__":
    unittest.main()
