"""The shell: its commands, answers and errors ([20.2], stage 20)."""

import random
import unittest

from heardlate.drive.moves import verdicts
from heardlate.errors import (
    InvalidCommand, InvalidEdit, InvalidNumber, InvalidOperation, InvalidPlan, InvalidRun, NothingToUndo, ParseError, Refuted,
    TooMany, UnknownName,
)
from heardlate.facts.decided import is_driven, is_paper
from heardlate.facts.refutations import is_refutation
from heardlate.house.house import House
from heardlate.margins.margins import margin
from heardlate.plans.plans import Plan
from heardlate.runs.runs import Run
from heardlate.tasks.tasks import Task, compiled
from heardlate.text.formats import format_plan, format_run, parse_paper, parse_plan, parse_run
from heardlate.text.shell import Shell
from tests import house_answers
from tests.samples import NEAR, ODD, Case

NEAR_LINES = (
    "plan near 10", "event near v", "step near c start 1 5 0", "bound near v c 2", "bound near c v 1", "run one near", "wait one 3",
)
# One command of each form that can be done behind these lines, with what it answers.
COMMANDS = (
    ("plan other 99", "ok"), ("event near w", "ok"), ("step near d v 1 2 never", "ok"), ("bound near start v 9", "ok"),
    ("unbound near v c", "ok"), ("tasks job 50 a 1..2; (b 1..3? 0 | c 2..2)", "ok"), ("run two near", "ok"), ("hear one c", "ok"),
    ("hear one", "ok"), ("do one v", "ok"), ("do one", "ok"), ("wait one 1", "ok"), ("show near", format_plan(NEAR)),
    ("show one", "run 3 before"), ("driven near", "driven"), ("driven one", "driven"), ("paper near", None), ("verdicts one", "v free"),
    ("margin near delay c", "1"), ("margin near least c", "1"), ("margin near most c", "12"), ("margin near bound c v", "0"),
    ("margin near all", "5"), ("undo", "ok"), ("names", "near plan, one run"),
)


def begun():
    shell = Shell()
    for line in NEAR_LINES:
        shell.do(line)
    return shell


class Commands(Case):
    def test_modules(self):
        self.assertEqual(Shell.__module__, "heardlate.text.shell")
        for name in ("__init__", "house", "do", "do_all", "__str__"):
            self.assertIn(name, vars(Shell))
        self.assertRaises(TypeError, iter, Shell())

    def test_an_empty_shell(self):
        shell = Shell()
        self.assertEqual((str(shell), shell.do("names"), shell.house()), ("shell with 0 names", "-", House()))

    def test_a_plan_and_a_run(self):
        shell = begun()
        self.assertEqual((shell.house().plans, shell.house().runs), ({"near": NEAR}, {"one": Run(NEAR).wait(ticks=3)}))
        self.assertEqual(str(shell), "shell with 2 names")
        self.assertEqual(len(shell.house().log()), len(NEAR_LINES))

    def test_each_command(self):
        for line, answer in COMMANDS:
            shell = begun()
            told = shell.do(line)
            self.assertIsInstance(told, str)
            self.assertFalse(told.endswith("\n"))
            if answer is not None:
                self.assertEqual(told, answer, line)
        shell = begun()
        shell.do("undo")
        self.assertEqual((shell.do("redo"), shell.house()), ("ok", begun().house()))

    def test_a_command_is_a_group_of_one_edit(self):
        job = compiled(Task.read("a 1..2; (b 1..3? 0 | c 2..2)"), horizon=50)
        for line, edit in (
            ("plan other 99", ("plan", "other", Plan(99))), ("plan near 3", None), ("event near w", ("plan", "near", NEAR.with_event("w"))),
            ("step near d v 1 2 never", ("plan", "near", NEAR.with_step("d", "v", 1, 2, None))),
            ("step near c start 2 5 1", ("plan", "near", NEAR.with_step("c", "start", 2, 5, 1))),
            ("bound near start v 9", ("bound", "near", "start", "v", 9)), ("bound near v c -999", ("bound", "near", "v", "c", -999)),
            ("unbound near v c", ("bound", "near", "v", "c", None)), ("tasks near 50 a 1..2; (b 1..3? 0 | c 2..2)", ("plan", "near", job)),
            ("tasks job 50 a 1..2; (b 1..3? 0 | c 2..2)", ("plan", "job", job)), ("run two near", ("run", "two", "near")),
            ("hear one c", ("hear", "one", ("c",))), ("hear one", ("hear", "one", ())), ("do one v", ("do", "one", ("v",))),
            ("do one", ("do", "one", ())), ("wait one 2", ("wait", "one", 2)),
        ):
            shell = begun()
            self.assertEqual(shell.do(line), "ok")
            edit = edit or ("plan", "near", Plan(3))
            self.assertEqual(shell.house().log()[-1], (edit,))
            self.assertEqual(len(shell.house().log()), len(NEAR_LINES) + 1)
            house = begun().house()
            house.apply(edit)
            self.assertEqual(shell.house(), house)
            self.assertEqual(shell.do("undo"), "ok")
            self.assertEqual(shell.house(), begun().house())

    def test_asking_changes_nothing(self):
        shell = begun()
        for line in ("show near", "show one", "driven near", "driven one", "paper near", "verdicts one", "margin near all", "names"):
            shell.do(line)
            self.assertEqual(shell.house(), begun().house())
        shell.do("undo")
        shell.do("show near")
        self.assertEqual(shell.do("redo"), "ok")

    def test_show(self):
        shell = begun()
        self.assertEqual(parse_plan(shell.do("show near")), NEAR)
        shell.do("hear one c")
        shell.do("do one v")
        self.assertEqual(shell.do("show one"), "run 3 behind\nheard 3 c\ndone 3 v")
        self.assertEqual(parse_run(NEAR, shell.do("show one")), Run(NEAR).wait(ticks=3).hear("c").do("v"))

    def test_driven(self):
        shell = begun()
        shell.do("wait one 1")
        self.assertEqual((shell.do("driven near"), shell.do("driven one")), ("driven", "driven"))
        shell.do("bound near c v -1")
        self.assertEqual((shell.do("driven near"), shell.do("driven one")), ("refuted", "refuted"))
        shell.do("do one v")
        self.assertEqual((shell.do("driven near"), shell.do("driven one")), ("refuted", "driven"))

    def test_papers(self):
        shell = begun()
        for line in ("paper near", "bound near c v -1", "paper near"):
            answer = shell.do(line)
            if answer != "ok":
                self.assertIs(is_paper(shell.house()["near"], parse_paper(answer)), True)
        self.assertEqual(answer.split("\n")[0], "refuted")

    def test_verdicts(self):
        shell = begun()
        shell.do("event near w")
        shell.do("event near a")
        self.assertEqual(shell.do("verdicts one"), "a free, v free, w free")
        shell.do("do one w a")
        self.assertEqual(shell.do("verdicts one"), "v free")
        shell.do("bound near c v -1")
        self.assertEqual(shell.do("verdicts one"), "v must")
        shell.do("do one v")
        self.assertEqual(shell.do("verdicts one"), "-")
        shell.do("run two near")
        shell.do("bound near c v 1")
        self.assertEqual(shell.do("verdicts two"), "a free, v not, w free")

    def test_margins(self):
        shell = begun()
        self.assertEqual(shell.do("margin near bound v start"), "-2")
        shell.do("bound near v c 3")
        for words in ("delay c", "least c", "most c", "bound c v", "bound v start", "bound start c", "all"):
            number = margin(NEAR.with_bound("v", "c", 3), tuple(words.split(" ")))
            self.assertEqual(shell.do("margin near " + words), "never" if number is None else str(number))
        shell.do("unbound near v c")
        self.assertEqual(shell.do("margin near delay c"), "never")

    def test_names(self):
        shell = begun()
        for line in ("plan zz 3", "run a zz", "plan b 1", "plan ab 2"):
            shell.do(line)
        self.assertEqual(shell.do("names"), "a run, ab plan, b plan, near plan, one run, zz plan")

    def test_a_plan_that_is_replaced(self):
        shell = begun()
        shell.do("plan near 7")
        self.assertEqual(shell.do("show near"), "plan 7")
        self.assertEqual(shell.do("show one"), "run 3 before")

    def test_tasks(self):
        shell = Shell()
        for text in ("a 1..2", "[a 1..2; b 1..3? 0] 6 | c 2..2", "(a 1..2 | b 1..1? never); [c 2..2] 5"):
            shell.do("tasks job 50 " + text)
            self.assertEqual(shell.house()["job"], compiled(Task.read(text), horizon=50))

    def test_many_names(self):
        shell = Shell()
        for line in ("plan p 9", "event p v", "event p w", "step p c start 1 3 0", "step p d start 1 3 0", "run r p", "wait r 2"):
            shell.do(line)
        shell.do("hear r d c")
        shell.do("do r w v")
        self.assertEqual(shell.do("show r"), "run 2 behind\nheard 2 c d\ndone 2 v w")

    def test_the_house_is_independent(self):
        shell = begun()
        house = shell.house()
        house.apply(("drop", "one"))
        house.watch("w", ("driven", "near"))
        house.memory = 0
        self.assertEqual(shell.house(), begun().house())
        self.assertEqual((shell.house().answers, shell.house().memory), ({}, 100))
        house = shell.house()
        shell.do("wait one 1")
        self.assertEqual(house["one"].tick, 3)
        self.assertEqual([house.undo(count=7), house.redo(count=7), len(shell.house().log())], [0, 7, 8])

    def test_undone_commands_stay_undone_in_the_house(self):
        shell = begun()
        shell.do("undo")
        shell.do("undo")
        house = shell.house()
        self.assertEqual([house.redo(count=2), house], [7, begun().house()])
        self.assertEqual(len(shell.house().log()), 5)


class Errors(Case):
    def test_words_more_and_fewer(self):
        shell = begun()
        for line, _ in COMMANDS + (("redo", "ok"),):
            words = line.split(" ")
            few = [" ".join(words[:-1])] if words[0] not in ("hear", "do") and not line.startswith("tasks job") else []
            more = [line + " x"] if words[0] not in ("hear", "do", "tasks") else []
            for other in few + more:
                self.refuses(InvalidCommand, shell.do, other)
            for other in (
                line + " ", " " + line, line.replace(" ", "  ") + " ", line + "  x", line.upper(), words[0] + "s" + line[len(words[0]):],
                "\n" + line, words[0] + "\n" + line[len(words[0]):], words[0] + "\t" + line[len(words[0]) + 1:], "," + line,
            ):
                self.refuses(InvalidCommand, shell.do, other)
            if len(words) > 1:
                self.refuses(InvalidCommand, shell.do, words[0])
                self.refuses(InvalidCommand, shell.do, line.replace(" ", "  ", 1))
        for line in ("tasks job 50", "tasks job", "tasks", "tasks job 50 ", "tasks job 50  a 1..2", "tasks job 50 a  1..2", "hear", "do"):
            self.refuses(InvalidCommand, shell.do, line)
        self.assertEqual(shell.house(), begun().house())

    def test_other_values(self):
        shell = begun()
        for value in ODD + ("", " ", "  ", "near", "help", ["names"], ("names",), b"names"):
            self.refuses(InvalidCommand, shell.do, value)

    def test_names_that_are_none(self):
        shell = begun()
        for name in ("V", "abcdefghi", "v1", "1", "-", "v,", "v\n", "\nv", "v_w", "*"):
            for line in (
                f"plan {name} 10", f"event {name} v", f"event near {name}", f"step {name} c start 1 5 0", f"step near {name} start 1 5 0",
                f"step near c {name} 1 5 0", f"bound {name} v c 2", f"bound near {name} c 2", f"bound near v {name} 2",
                f"unbound {name} v c", f"unbound near {name} c", f"unbound near v {name}", f"tasks {name} 50 a 1..2", f"run {name} near",
                f"run two {name}", f"hear {name} c", f"hear one {name}", f"hear one c {name}", f"do {name} v", f"do one {name}",
                f"do one v {name}", f"wait {name} 1", f"show {name}", f"driven {name}", f"paper {name}", f"verdicts {name}",
                f"margin {name} all", f"margin near delay {name}", f"margin near least {name}", f"margin near most {name}",
                f"margin near bound {name} v", f"margin near bound v {name}", f"margin near all {name}", f"margin near {name}",
                f"margin none delay {name}",
            ):
                self.refuses(InvalidCommand, shell.do, line)

    def test_numbers_that_are_none(self):
        shell = begun()
        for number in ("1000", "-1000", "-0", "+1", "01", "00", "x", "1.0", "never", "1" * 41, "--1", "1-", "0x1", "1_0", "\n1"):
            for line in (
                f"plan p {number}", f"step near c start {number} 5 0", f"step near c start 1 {number} 0", f"bound near v c {number}",
                f"tasks job {number} a 1..2", f"wait one {number}", f"plan one {number}", f"wait none {number}", f"tasks job {number} nothing",
            ):
                self.refuses(InvalidCommand, shell.do, line)
            if number != "never":
                self.refuses(InvalidCommand, shell.do, f"step near c start 1 5 {number}")
        for line in ("step near c start 1 5 Never", "step near c start 1 5 None", "step near c start 1 5 nevers"):
            self.refuses(InvalidCommand, shell.do, line)

    def test_margins_that_are_no_questions(self):
        shell = begun()
        for line in (
            "margin near", "margin near delay", "margin near delay c c", "margin near bound v", "margin near bound v c 2", "margin near all c",
            "margin near span c", "margin near Delay c", "margin delay c", "margin near least", "margin near most", "margin near bound",
        ):
            self.refuses(InvalidCommand, shell.do, line)

    def test_three_digits_are_numbers(self):
        shell = begun()
        for line, number in (("plan p 100", 100), ("plan p -1", -1), ("plan p 999", 999), ("plan one -999", -999)):
            self.keeps(InvalidNumber, "value", number, shell.do, line)
        for line in ("step near c start 0 5 0", "step near c start 1 999 0", "step near c start 1 5 999", "step near c start 1 5 -1"):
            self.refuses(InvalidPlan, shell.do, line)
        self.keeps(InvalidNumber, "value", 0, shell.do, "wait one 0")
        self.keeps(InvalidNumber, "value", -5, shell.do, "wait one -5")
        self.keeps(InvalidNumber, "value", 401, shell.do, "wait one 401")
        self.assertEqual(shell.do("bound near v c 999"), "ok")

    def test_errors_of_the_house_and_of_the_functions(self):
        shell = begun()
        for line, error, value in (
            ("event none v", UnknownName, "none"), ("event one v", UnknownName, "one"), ("step none c start 1 5 0", UnknownName, "none"),
            ("step one c start 9 5 0", UnknownName, "one"), ("bound one v c 1", UnknownName, "one"), ("bound near x c 1", UnknownName, "x"),
            ("unbound one v c", UnknownName, "one"), ("unbound near v x", UnknownName, "x"), ("run two none", UnknownName, "none"),
            ("run two one", UnknownName, "one"), ("hear near c", UnknownName, "near"), ("hear none c", UnknownName, "none"),
            ("hear one v", UnknownName, "v"), ("do near v", UnknownName, "near"), ("do one c", UnknownName, "c"),
            ("wait near 1", UnknownName, "near"), ("wait none 0", UnknownName, "none"), ("show none", UnknownName, "none"),
            ("driven none", UnknownName, "none"), ("paper none", UnknownName, "none"), ("paper one", UnknownName, "one"),
            ("verdicts near", UnknownName, "near"), ("verdicts none", UnknownName, "none"), ("margin one all", UnknownName, "one"),
            ("margin none delay x", UnknownName, "none"), ("margin one delay x", UnknownName, "one"),
        ):
            self.keeps(error, "name", value, shell.do, line)
        for line, error in (
            ("plan one 10", InvalidEdit), ("tasks one 10 a 1..2", InvalidEdit), ("run near near", InvalidEdit), ("run one near", InvalidEdit),
            ("run one none", InvalidEdit), ("event near v", InvalidPlan), ("event near c", InvalidPlan), ("event near start", InvalidPlan),
            ("step near v start 1 5 0", InvalidPlan), ("step near d x 1 5 0", InvalidPlan), ("bound near v v 1", InvalidPlan),
            ("unbound near start v", InvalidOperation), ("hear one c c", InvalidOperation), ("do one v v", InvalidOperation),
            ("wait one 3", InvalidOperation), ("margin near delay v", InvalidOperation), ("margin near bound v v", InvalidOperation),
            ("margin near delay x", InvalidOperation), ("step near c start 1 2 0", InvalidRun), ("tasks job 10 a", ParseError),
            ("tasks job 10 a 1..2;", ParseError), ("tasks job 10 a\n1..2", ParseError), ("tasks job 10 a 1..2\n", ParseError),
            ("tasks job 10 (a 1..2)", ParseError),
        ):
            self.refuses(error, shell.do, line)
        self.assertEqual(shell.house(), begun().house())

    def test_functions_come_first_for_plans_and_tasks(self):
        shell = begun()
        self.keeps(InvalidNumber, "value", 100, shell.do, "plan one 100")
        self.refuses(ParseError, shell.do, "tasks one 100 nothing")
        self.refuses(ParseError, shell.do, "tasks job 100 nothing")
        self.keeps(InvalidNumber, "value", 100, shell.do, "tasks one 100 a 1..2")
        self.keeps(TooMany, "limit", 10, shell.do, "tasks one 9 a 1..1 | b 1..1 | c 1..1 | d 1..1 | e 1..1 | f 1..1")
        self.keeps(InvalidNumber, "value", -1, shell.do, "tasks one -1 a 1..1 | b 1..1 | c 1..1 | d 1..1 | e 1..1 | f 1..1")
        self.refuses(InvalidEdit, shell.do, "tasks one 9 a 1..1")
        self.refuses(ParseError, shell.do, "tasks job -1 a 1..1 |")

    def test_limits_of_plans(self):
        shell = Shell()
        shell.do("plan p 9")
        for name in "abcdefghij":
            shell.do("event p " + name)
        self.keeps(TooMany, "limit", 10, shell.do, "event p k")
        for name in "pqrst":
            shell.do(f"step p {name} start 1 2 0")
        self.keeps(TooMany, "limit", 5, shell.do, "step p u start 1 2 0")
        self.assertEqual(shell.do("step p t start 1 3 0"), "ok")

    def test_refuted_plans(self):
        shell = begun()
        shell.do("bound near c v -1")
        paper = self.refuses(Refuted, shell.do, "margin near delay c").paper
        self.assertIs(is_refutation(shell.house()["near"], paper), True)
        shell.do("plan p 3")
        shell.do("event p v")
        shell.do("bound p v start -4")
        shell.do("run r p")
        self.refuses(Refuted, shell.do, "verdicts r")

    def test_nothing_to_undo(self):
        shell = Shell()
        self.keeps(NothingToUndo, "many", 1, shell.do, "undo")
        self.keeps(NothingToUndo, "many", 1, shell.do, "redo")
        shell.do("plan p 3")
        shell.do("undo")
        self.keeps(NothingToUndo, "many", 1, shell.do, "undo")
        shell.do("plan p 4")
        self.keeps(NothingToUndo, "many", 1, shell.do, "redo")

    def test_news_that_must_come(self):
        shell = begun()
        shell.do("wait one 2")
        self.refuses(InvalidOperation, shell.do, "verdicts one")
        self.refuses(InvalidOperation, shell.do, "do one v")

    def test_an_error_changes_nothing(self):
        shell = begun()
        shell.do("wait one 1")
        shell.do("undo")
        for line in ("plan one 10", "event near v", "hear one v", "x", "wait one 9", "step near c start 1 2 0", "tasks near 3 a"):
            self.assertRaises(Exception, shell.do, line)
            self.assertEqual(shell.house(), begun().house())
        self.assertEqual((shell.do("redo"), shell.do("show one")), ("ok", "run 4 before"))

    def test_by_keyword(self):
        shell = begun()
        self.assertEqual((shell.do(line="names"), list(shell.do_all(lines=("names",)))), ("near plan, one run", ["near plan, one run"]))


class All(Case):
    def test_answers(self):
        shell = Shell()
        lines = NEAR_LINES + ("names", "show one", "undo", "show one")
        self.assertEqual(list(shell.do_all(lines)), ["ok"] * 7 + ["near plan, one run", "run 3 before", "ok", "run 0 before"])
        self.assertEqual(list(shell.do_all(())), [])

    def test_each_is_done_when_its_answer_is_asked_for(self):
        shell = Shell()
        answers = shell.do_all(("plan p 3", "plan q 4", "names"))
        self.assertEqual(len(shell.house()), 0)
        self.assertEqual((next(answers), len(shell.house())), ("ok", 1))
        shell.do("plan r 5")
        self.assertEqual((next(answers), next(answers)), ("ok", "p plan, q plan, r plan"))
        self.assertRaises(StopIteration, next, answers)

    def test_an_error_in_the_middle(self):
        shell = Shell()
        answers = shell.do_all(("plan p 3", "plan P 3", "plan q 3"))
        self.assertEqual(next(answers), "ok")
        self.refuses(InvalidCommand, next, answers)
        self.assertEqual(list(answers), [])
        self.assertEqual(shell.do("names"), "p plan")
        for line in (None, ("plan p 3",), 5):
            self.refuses(InvalidCommand, next, shell.do_all((line,)))

    def test_what_is_no_tuple(self):
        shell = begun()
        for value in ODD + (["names"], "names", {"names": 0}):
            if not isinstance(value, tuple):
                answers = shell.do_all(value)
                self.refuses(InvalidCommand, next, answers)
        self.assertEqual(shell.house(), begun().house())

    def test_arguments_stay(self):
        lines = ("plan p 3", "names")
        list(Shell().do_all(lines))
        self.assertEqual(lines, ("plan p 3", "names"))


class Histories(Case):
    def test_against_a_house_that_is_edited_by_hand(self):
        done = {}
        for seed in range(80, 105):
            shell, house = Shell(), House()
            chance = random.Random(seed)
            for record, word, value in house_answers.some_history(seed, 50):
                if word == "memory":
                    continue
                for line, edit in lines_for(record, word, value, chance):
                    expected = outcome(lambda: house.apply(edit) if isinstance(edit, tuple) else getattr(house, edit)())
                    found = outcome(lambda: shell.do(line))
                    self.assertEqual(found[0], expected[0], (line, edit))
                    if found[0] is None:
                        self.assertEqual(found[1], "ok")
                        if isinstance(edit, tuple):
                            record.apply((edit,))
                        else:
                            getattr(record, edit)(1)
                    done[line.split(" ")[0], found[0] is None] = True
                    self.assertEqual(shell.house(), house)
                    self.assertEqual(str(shell), f"shell with {len(house)} names")
                self.check_answers(shell, house)
        self.assertGreater(len(done), 17, done)

    def check_answers(self, shell, house):
        kinds = {**{name: "plan" for name in house.plans}, **{name: "run" for name in house.runs}}
        self.assertEqual(shell.do("names"), ", ".join(f"{name} {kinds[name]}" for name in sorted(kinds)) or "-")
        for name, plan in house.plans.items():
            self.assertEqual(shell.do("show " + name), format_plan(plan))
            self.assertEqual(shell.do("driven " + name), "driven" if is_driven(plan) else "refuted")
        for name, run in house.runs.items():
            self.assertEqual(shell.do("show " + name), format_run(run))
            self.assertEqual(shell.do("driven " + name), "driven" if is_driven(run.rest) else "refuted")
            error, told = outcome(lambda: verdicts(run))
            if error is None:
                told = ", ".join(f"{event} {told[event]}" for event in sorted(told)) or "-"
            self.assertEqual(outcome(lambda: shell.do("verdicts " + name)), (error, told))


def lines_for(record, word, value, chance):
    """Commands with the edits that they should make, for drawn groups."""
    if word in ("undo", "redo"):
        yield word, word
        return
    for edit in value:
        kind, name, *values = edit
        if kind == "plan" and isinstance(values[0], Plan):
            yield f"plan {name} {values[0].horizon}", ("plan", name, Plan(values[0].horizon))
            for event in values[0].events:
                plan = record.plans.get(name)
                if plan is not None and event not in plan:
                    yield f"event {name} {event}", ("plan", name, plan.with_event(event))
            for step in values[0].steps:
                plan = record.plans.get(name)
                if plan is not None and step[1] in plan and step[0] not in plan.events:
                    line = " ".join(["never" if part is None else str(part) for part in step])
                    yield f"step {name} {line}", ("plan", name, plan.with_step(*step))
            for first, second, most in values[0].bounds:
                yield f"bound {name} {first} {second} {most}", ("bound", name, first, second, most)
        elif kind == "bound" and values[2] is None:
            yield f"unbound {name} {values[0]} {values[1]}", edit
        elif kind == "bound" and abs(values[2]) < 1000:
            yield f"bound {name} {values[0]} {values[1]} {values[2]}", edit
        elif kind == "run":
            yield f"run {name} {values[0]}", edit
        elif kind in ("hear", "do"):
            yield " ".join([kind, name, *values[0]]), edit
        elif kind == "wait":
            yield f"wait {name} {values[0]}", edit


def outcome(call):
    """The error that a call raises, or None, and what it returns."""
    try:
        return None, call()
    except (*house_answers.OWN, Refuted) as error:
        return type(error), None


if __name__ == "__main__":
    unittest.main()
