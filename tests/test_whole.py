"""The whole program: what holds everywhere, whatever the module ([0.1] to [0.7], [0.14] to [0.17])."""

import copy
import inspect
import itertools
import random
import types
import unittest

from heardlate import errors
from heardlate.base import arcs, names
from heardlate.drive import drivers, moves, opponents
from heardlate.drive.drivers import EagerDriver, PolicyDriver, TableDriver
from heardlate.drive.opponents import Opponent
from heardlate.errors import (
    InvalidArcs, InvalidDurations, InvalidNumber, InvalidOperation, InvalidPlan, InvalidPolicy, InvalidRun, InvalidTable,
    InvalidTask, InvalidTimes, TooMany, UnknownName,
)
from heardlate.facts import decided, facts, refutations, tables
from heardlate.facts.decided import derived_paper, is_driven, paper_of
from heardlate.facts.refutations import is_refutation
from heardlate.facts.tables import derived_table, is_table_paper
from heardlate.house import house as houses
from heardlate.house.house import House
from heardlate.margins import hearing, idle, margins
from heardlate.parts import parts
from heardlate.parts.parts import NestedDriver
from heardlate.plans import durations, plans, times, timetables
from heardlate.plans.plans import Plan
from heardlate.runs import policies, runs
from heardlate.runs.runs import Run
from heardlate.tasks import tasks
from heardlate.tasks.tasks import Own, Task
from heardlate.text import formats, shell
from heardlate.text.shell import Shell
from tests import game_answers, house_answers, time_answers
from tests.samples import EARLY, EXACT, NEAR, NESTED, Case

SOME = (("a", "b", 3), ("b", "c", -5), ("c", "a", 2), ("a", "c", -1))
RUN = Run(NEAR).wait(ticks=3)
INNER = Plan(3, events=("z",), bounds=(("start", "z", 5), ("z", "start", -1)))
JOB = Task.read("a 1..2; b 1..3? 0")
PLAIN, LATE = derived_table(NEAR)
DRIVER = EagerDriver(NEAR)

# What may be passed for a parameter: a name, a value that is right, one that is wrong, and the error for it; without an
# error the parameter takes every value.
PLAN = ("plan", NEAR, (NEAR,), InvalidPlan)
RUNNING = ("run", RUN, NEAR, InvalidRun)
END = ("end", "c", "v", UnknownName)
DURATIONS = ("durations", {"c": 3}, {"c": 9}, InvalidDurations)
TIMES = ("times", {"start": 0, "v": 2, "c": 3}, {"start": 0, "v": 2}, InvalidTimes)
POLICY = ("policy", EARLY, {(11, ()): ("v",)}, InvalidPolicy)
ARCS = ("arcs", SOME, [("a", "b", 3)], InvalidArcs)
VALUE = ("value", None, None, None)
QUESTION = ("question", ("delay", "c"), ("delay", "v"), InvalidOperation)
OUTER = (("outer", NEAR, None, InvalidPlan), END, ("inner", INNER, None, InvalidPlan), ("last", "z", "c", UnknownName))

# Functions with their parameters in order; keywords of their own stand behind a star.
CALLS = (
    (arcs.is_way, ARCS, VALUE, "*", ("source", "a", "x", UnknownName), ("target", "c", ["c"], UnknownName)),
    (arcs.is_ring, ARCS, VALUE), (arcs.is_numbers, ARCS, VALUE), (arcs.distances, ARCS, ("source", "a", "x", UnknownName)),
    (arcs.shortest_way, ARCS, ("source", "a", "x", UnknownName), ("target", "c", None, UnknownName)), (arcs.numbers_paper, ARCS),
    (arcs.is_numbers_paper, ARCS, VALUE), (arcs.closed_arcs, ARCS),
    (durations.is_durations, PLAN, VALUE), (durations.count_durations, PLAN), (durations.all_durations, PLAN), (durations.extremes, PLAN),
    (times.is_times, PLAN, VALUE), (times.times_of, PLAN, ("done", {"v": 3}, {"v": 11}, InvalidTimes), DURATIONS),
    (times.durations_of, PLAN, TIMES), (times.broken_bounds, PLAN, TIMES), (times.are_kept, PLAN, TIMES),
    (timetables.arcs_of, PLAN), (timetables.known, PLAN, DURATIONS), (timetables.earliest, PLAN, DURATIONS),
    (timetables.latest, PLAN, DURATIONS), (timetables.play, PLAN, DURATIONS), (timetables.timetable_paper, PLAN, DURATIONS),
    (timetables.is_timetable_paper, PLAN, DURATIONS, VALUE), (timetables.first_untimed, PLAN), (timetables.fixed_times, PLAN),
    (policies.is_policy, PLAN, VALUE), (policies.played, PLAN, POLICY, DURATIONS), (policies.first_failure, PLAN, POLICY),
    (policies.is_safe, PLAN, VALUE), (policies.reached_pairs, PLAN, POLICY), (policies.trimmed, PLAN, POLICY),
    (facts.given_facts, PLAN), (facts.is_fact, PLAN, VALUE),
    (facts.fact_holds, PLAN, ("fact", ("plain", "v", "c"), ("plain", "v"), InvalidTable), ("most", 3, True, InvalidNumber), TIMES),
    (tables.is_table, PLAN, VALUE), (tables.is_table_paper, PLAN, VALUE), (tables.derived_table, PLAN),
    (refutations.refutation, PLAN), (refutations.is_refutation, PLAN, VALUE),
    (decided.paper_of, PLAN), (decided.is_paper, PLAN, VALUE), (decided.is_driven, PLAN), (decided.derived_paper, PLAN),
    (decided.implied, PLAN, ("first", "v", "x", UnknownName), ("second", "c", True, UnknownName)),
    (decided.same_tables, PLAN, ("other", EXACT, None, InvalidPlan)),
    (drivers.drive, ("driver", DRIVER, RUN, InvalidOperation), DURATIONS), (drivers.policy_of, ("driver", DRIVER, RUN, InvalidOperation)),
    (moves.verdict_on, RUNNING, ("event", "v", "c", UnknownName)), (moves.verdicts, RUNNING),
    (moves.move_paper, RUNNING, ("event", "v", ("v",), UnknownName)), (moves.is_move_paper, RUNNING, ("event", "v", 1, UnknownName), VALUE),
    (moves.is_sound, RUNNING), (moves.stand, RUNNING), (moves.choices, RUNNING),
    (margins.changed, PLAN, QUESTION, ("number", 3, True, InvalidNumber)), (margins.margin, PLAN, QUESTION),
    (margins.margin_paper, PLAN, QUESTION), (margins.is_margin_paper, PLAN, QUESTION, VALUE),
    (margins.latest_time, PLAN, ("point", "v", "x", UnknownName)), (margins.promised_end, PLAN),
    (hearing.least_sets, PLAN), (hearing.least_blocks, PLAN), (hearing.needed_ends, PLAN), (hearing.hearing_paper, PLAN),
    (hearing.is_hearing_paper, PLAN, VALUE),
    (idle.is_idle, PLAN, ("first", "v", 1, UnknownName), ("second", "c", "x", UnknownName)), (idle.idle_bounds, PLAN), (idle.thinned, PLAN),
    (idle.tightened, PLAN), (idle.is_core, PLAN, VALUE),
    (parts.spanned, *OUTER), (parts.fit_paper, *OUTER), (parts.is_fitting, *OUTER), (parts.nested, *OUTER),
    (
        tasks.compiled, ("task", JOB, "a 1..2", InvalidTask), "*", ("horizon", 9, 100, InvalidNumber),
        ("rules", (("together", "a", "b"),), (("together", "a", "a"),), InvalidOperation),
    ),
    (formats.format_plan, PLAN), (formats.parse_plan, ("text", "plan 3", "plan 3\n", errors.ParseError)), (formats.format_run, RUNNING),
    (formats.parse_run, PLAN, ("text", "run 3 before", "run 3", errors.ParseError)),
    (formats.format_paper, PLAN, ("value", paper_of(EXACT), None, InvalidTable)),
    (formats.parse_paper, ("text", "refuted\nplain a b 0 given\nring 0", "ring 0", errors.ParseError)),
    (formats.format_policy, PLAN, POLICY), (formats.parse_policy, ("text", "policy", "", errors.ParseError)),
    (Own, ("name", "a", "aaaaaaa", InvalidTask), ("least", 1, True, InvalidTask), ("most", 2, 100, InvalidTask)),
    (
        tasks.Other, ("name", "a", None, InvalidTask), ("least", 1, 0, InvalidTask), ("most", 2, None, InvalidTask), "*",
        ("delay", 3, 100, InvalidTask),
    ),
    (tasks.Within, ("task", JOB, "b 1..2", InvalidTask), ("most", 3, -1, InvalidTask)), (Task.read, ("text", "a 1..2", "a", errors.ParseError)),
    (Run, PLAN), (Run(NEAR).wait, "*", ("ticks", 2, 401, InvalidNumber)), (Run(NEAR).do("v").finished, DURATIONS),
    (Plan.of, ("values", {"horizon": 3}, {}, InvalidPlan)),
    (NEAR.step, END), (NEAR.bound, ("first", "v", "x", UnknownName), ("second", "c", None, UnknownName)),
    (NEAR.with_bound, ("first", "v", "x", UnknownName), ("second", "c", 1, UnknownName), ("most", 1, 1000, InvalidPlan)),
    (NEAR.without_bound, ("first", "v", "x", UnknownName), ("second", "c", 1, UnknownName)), (NEAR.with_event, ("event", "w", "v", InvalidPlan)),
    (
        NEAR.with_step, ("end", "d", "v", InvalidPlan), ("begin", "v", "d", InvalidPlan), ("least", 1, 0, InvalidPlan),
        ("most", 2, 100, InvalidPlan), ("delay", None, -1, InvalidPlan),
    ),
    (NEAR.with_span, END, ("least", 2, 0, InvalidPlan), ("most", 3, 100, InvalidPlan)), (NEAR.with_delay, END, ("delay", 1, True, InvalidPlan)),
    (NEAR.with_horizon, ("horizon", 3, 100, InvalidPlan)), (NEAR.renamed_by, ("names", {"v": "w"}, [], InvalidOperation)),
    (NEAR.within, ("other", EXACT, None, InvalidPlan)), (NEAR.without, ("point", "v", "start", UnknownName)),
    (TableDriver, PLAN, ("paper", derived_paper(NEAR), paper_of(EXACT), InvalidTable)), (EagerDriver, PLAN), (PolicyDriver, PLAN, POLICY),
    (Opponent, ("plan", EXACT, None, InvalidPlan)),
    (
        NestedDriver, ("outer", DRIVER, RUN, InvalidOperation), ("end", "c", "x", UnknownName),
        ("inner", EagerDriver(INNER), None, InvalidOperation), ("last", "z", "c", UnknownName),
    ),
)
# Of these the drivers are looked at first, and then the names.
ORDERS = {NestedDriver: ("outer", "inner", "end", "last")}

INTERFACE = {
    names: "is_name",
    arcs: "is_arcs is_way is_ring is_numbers distances shortest_way numbers_paper is_numbers_paper closed_arcs",
    plans: "Plan",
    durations: "is_durations count_durations all_durations extremes",
    times: "is_times times_of durations_of broken_bounds are_kept",
    timetables: "arcs_of known earliest latest play timetable_paper is_timetable_paper first_untimed fixed_times",
    runs: "Run",
    policies: "is_policy played first_failure is_safe reached_pairs trimmed",
    facts: "given_facts is_fact derived fact_holds",
    tables: "is_table is_closed open_rule table_numbers is_table_paper derived_table narrowed",
    refutations: "refutation is_refutation used_rows shortened",
    decided: "paper_of is_paper is_driven implied same_tables derived_paper",
    drivers: "Driver TableDriver EagerDriver PolicyDriver drive policy_of",
    opponents: "Opponent duel",
    moves: "done_rest later_rest verdict_on verdicts move_paper is_move_paper is_sound stand choices",
    margins: "changed margin margin_paper is_margin_paper latest_time promised_end",
    hearing: "is_enough is_block least_sets least_blocks needed_ends hearing_paper is_hearing_paper",
    idle: "is_idle idle_bounds thinned tightened core is_core",
    parts: "spanned fit_paper is_fitting nested NestedDriver",
    tasks: "Task Own Other Row Beside Within compiled",
    houses: "House",
    formats: "format_plan parse_plan format_run parse_run format_paper parse_paper format_policy parse_policy",
    shell: "Shell",
    errors: "PlanError InvalidArcs InvalidPlan InvalidDurations InvalidTimes InvalidRun InvalidPolicy InvalidTable InvalidTask "
    "InvalidOperation InvalidEdit ParseError InvalidCommand InvalidNumber UnknownName TooMany Refuted Driven NothingToUndo",
}
CONSTANTS = (
    (arcs, "MAX_ARCS", 400), (plans, "MAX_EVENTS", 10), (plans, "MAX_STEPS", 5), (plans, "MAX_HORIZON", 99),
    (durations, "MAX_CHOICES", 5000), (runs, "MAX_TICK", 400), (policies, "MAX_ROWS", 2000), (tasks, "MAX_LEAVES", 8), (tasks, "MAX_NEST", 6),
)


def result_of(call, *values, **more):
    """What a call returns, the results of a generator as a list."""
    found = call(*values, **more)
    return list(found) if isinstance(found, types.GeneratorType) else found


def split(given):
    """The parameters that may be passed by position, and those that are keywords."""
    place = given.index("*") if "*" in given else len(given)
    return given[:place], given[place + 1:]


class Interface(Case):
    def test_names_are_defined_in_their_modules(self):
        for module, words in INTERFACE.items():
            for word in words.split():
                self.assertEqual(getattr(module, word).__module__, module.__name__, word)
        for module, name, value in CONSTANTS:
            self.assertEqual(getattr(module, name), value)

    def test_parameters_have_their_names(self):
        for call, *given in CALLS:
            first, more = split(given)
            known = inspect.signature(call).parameters
            self.assertEqual(list(known), [name for name, *_ in first] + [name for name, *_ in more], call)
            for name, *_ in first:
                self.assertEqual(known[name].kind, inspect.Parameter.POSITIONAL_OR_KEYWORD, (call, name))
            for name, *_ in more:
                self.assertEqual(known[name].kind, inspect.Parameter.KEYWORD_ONLY, (call, name))

    def test_by_position_and_by_keyword_in_any_order(self):
        for call, *given in CALLS:
            first, more = split(given)
            values = [value for _, value, *_ in first]
            keywords = {name: value for name, value, *_ in first + more}
            behind = {name: value for name, value, *_ in more}
            expected = result_of(call, *values, **behind)
            for order in itertools.islice(itertools.permutations(keywords), 24):
                self.assertEqual(result_of(call, **{name: keywords[name] for name in order}), expected, call)
            if more:
                self.assertRaises(TypeError, call, *values, *behind.values())

    def test_default_values(self):
        self.assertEqual(tasks.compiled(JOB), tasks.compiled(JOB, horizon=99, rules=()))
        self.assertEqual(Run(NEAR).wait(), Run(NEAR).wait(ticks=1))
        self.assertEqual(Plan(3), Plan(3, events=(), steps=(), bounds=()))
        self.assertEqual(Plan(3, bounds=(), events=("v",)), Plan(events=("v",), horizon=3))
        one, other = House(), House()
        for house in (one, other):
            house.apply(("plan", "p", NEAR))
            house.apply(("plan", "q", NEAR))
        self.assertEqual((one.undo(), one), (other.undo(count=1), other))
        self.assertEqual((one.redo(), one), (other.redo(count=1), other))
        self.assertEqual(EagerDriver(NEAR)(), EagerDriver(NEAR)(()))

    def test_class_methods_return_what_the_class_returns(self):
        plan = Plan.of({"horizon": 10, "events": ("v",), "steps": NEAR.steps, "bounds": NEAR.bounds})
        self.assertEqual((plan, type(plan)), (NEAR, Plan))
        for text in ("a 1..2", "a 1..2? 0", "a 1..2; b 1..2", "a 1..2 | b 1..2", "[a 1..2] 3"):
            task = Task.read(text)
            self.assertEqual((str(task), type(task).read(text)), (text, task))


class Wrong(Case):
    def test_one_wrong_value_and_several_at_once(self):
        many = 0
        for call, *given in CALLS:
            first, more = split(given)
            both = [*first, *more]
            faults = [row for row in both if row[3] is not None]
            order = ORDERS.get(call, [row[0] for row in both])
            for size in range(1, len(faults) + 1):
                for chosen in itertools.combinations(faults, size):
                    wrong = {row[0]: row[2] for row in chosen}
                    worst = min(chosen, key=lambda row: order.index(row[0]))
                    values = [wrong.get(name, value) for name, value, *_ in first]
                    keywords = {name: wrong.get(name, value) for name, value, *_ in more}
                    caught = self.refuses(worst[3], result_of, call, *values, **keywords)
                    if worst[3] is UnknownName:
                        self.assertEqual(caught.name, worst[2])
                    if worst[3] is InvalidNumber:
                        self.assertIs(caught.value, worst[2])
                    turned = {row[0]: wrong.get(row[0], row[1]) for row in reversed(both)}
                    self.refuses(worst[3], result_of, call, **turned)
                    many += 1
        self.assertGreater(many, 250)

    def test_values_stay(self):
        for call, *given in CALLS:
            first, more = split(given)
            before = repr([row[1] for row in (*first, *more) if isinstance(row[1], (dict, tuple, str))])
            result_of(call, *[row[1] for row in first], **{row[0]: row[1] for row in more})
            self.assertEqual(repr([row[1] for row in (*first, *more) if isinstance(row[1], (dict, tuple, str))]), before)

    def test_wrong_values_come_ahead_of_refuted_plans(self):
        refuted = Run(EXACT)
        for call, error, values in (
            (decided.implied, UnknownName, (EXACT, "v", "x")), (margins.latest_time, UnknownName, (EXACT, "x")),
            (margins.margin, InvalidOperation, (EXACT, ("delay", "x"))), (idle.is_idle, UnknownName, (EXACT, "v", "x")),
            (idle.is_idle, InvalidOperation, (EXACT, "v", "start")), (moves.verdict_on, UnknownName, (refuted, "c")),
            (moves.move_paper, UnknownName, (refuted, "x")), (moves.done_rest, UnknownName, (refuted, "c")),
        ):
            self.refuses(error, call, *values)

    def test_equal_calls_return_equal_results_whatever_is_done_to_them(self):
        for call, *given in CALLS:
            first, more = split(given)
            values, keywords = [row[1] for row in first], {row[0]: row[1] for row in more}
            found = result_of(call, *values, **keywords)
            before = copy.deepcopy(found)
            self.assertEqual(result_of(call, *values, **keywords), before, call)
            clear(found)
            self.assertEqual(result_of(call, *values, **keywords), before, call)

    def test_keys_of_returned_dicts_ascend(self):
        for call, *given in CALLS:
            first, more = split(given)
            for found in dicts_in(result_of(call, *[row[1] for row in first], **{row[0]: row[1] for row in more})):
                self.assertEqual(list(found), sorted(found), call)


def dicts_in(value):
    """All dicts in a value that was returned."""
    if isinstance(value, dict):
        yield value
    if isinstance(value, (tuple, list, dict)):
        for part in value.values() if isinstance(value, dict) else value:
            yield from dicts_in(part)


def clear(value):
    """Empties all dicts in a value that was returned."""
    for found in list(dicts_in(value)):
        found.clear()


class Generators(Case):
    def test_their_errors_come_with_the_first_result(self):
        many = Plan(9, steps=tuple((end, "start", 1, 99, 0) for end in "cd"))
        seven = Run(Plan(4, events=tuple("abcdefg")))
        for call, values, error in (
            (durations.all_durations, (None,), InvalidPlan), (durations.all_durations, (many,), TooMany), (durations.extremes, ([],), InvalidPlan),
            (moves.choices, (None,), InvalidRun), (moves.choices, (seven,), TooMany), (moves.choices, (Run(EXACT),), errors.Refuted),
            (Shell().do_all, (None,), errors.InvalidCommand), (Shell().do_all, ([],), errors.InvalidCommand),
        ):
            found = call(*values)
            self.assertIsInstance(found, types.GeneratorType)
            self.refuses(error, next, found)

    def test_the_first_results_come_without_the_others(self):
        plan = Plan(9, steps=tuple((end, "start", 1, most, 0) for end, most in zip("cde", (50, 50, 2))))
        self.assertEqual(next(durations.all_durations(plan)), {"c": 1, "d": 1, "e": 1})
        self.assertEqual(next(durations.extremes(plan)), {"c": 1, "d": 1, "e": 1})
        self.assertEqual(next(moves.choices(Run(Plan(4, events=tuple("abcdef"))))), ())
        shell = Shell()
        answers = shell.do_all(("plan p 3", "no command"))
        self.assertEqual((next(answers), len(shell.house())), ("ok", 1))

    def test_each_result_is_a_new_one(self):
        for found in durations.all_durations(NEAR):
            found.clear()
        self.assertEqual(list(durations.all_durations(NEAR)), [{"c": many} for many in range(1, 6)])


class Objects(Case):
    def test_no_iteration(self):
        house = House()
        house.apply(("plan", "p", NEAR))
        for value in (NEAR, RUN, DRIVER, NESTED, Opponent(EXACT), JOB, Own("a", 1, 2), house, Shell()):
            self.assertRaises(TypeError, iter, value)

    def test_unlike_is_the_opposite_of_alike(self):
        values = (NEAR, EXACT, RUN, Run(NEAR), DRIVER, NESTED, Opponent(EXACT), JOB, Own("a", 1, 2), House(), None, 1, "near", (), {})
        for one, other in itertools.product(values, repeat=2):
            self.assertIs(one != other, not one == other)
            self.assertIs(one == other, other == one)

    def test_twins_are_independent(self):
        for value, go_on in (
            (EagerDriver(NEAR), lambda driver: driver()), (TableDriver(NEAR, derived_paper(NEAR)), lambda driver: driver()),
            (PolicyDriver(NEAR, EARLY), lambda driver: driver()), (NESTED.twin(), lambda driver: driver()),
            (Opponent(EXACT), lambda opponent: opponent.did()),
        ):
            twin = value.twin()
            go_on(twin)
            self.assertEqual((value.tick, twin.tick), (0, 1))
            self.assertNotEqual(value, twin)
            go_on(value)
            self.assertEqual(value, twin)

    def test_properties_hand_out_nothing(self):
        opponent = Opponent(EXACT)
        while opponent.verdict is None:
            opponent.did(*opponent.run.left[:1])
        house = House()
        house.apply(("plan", "p", NEAR), ("run", "r", "p"))
        house.watch("w", ("verdicts", "r"))
        for value, name in (
            (RUN, "times"), (opponent, "verdict"), (house, "plans"), (house, "runs"), (house, "answers"),
        ):
            before = copy.deepcopy(getattr(value, name))
            clear(getattr(value, name))
            self.assertEqual(getattr(value, name), before, name)


class Errors(Case):
    def test_what_they_are_derived_from(self):
        for name in INTERFACE[errors].split()[1:13]:
            self.assertEqual(getattr(errors, name).__bases__, (errors.PlanError,))
        self.assertEqual(errors.PlanError.__bases__, (ValueError,))
        for name, base, attribute in (
            ("InvalidNumber", IndexError, "value"), ("UnknownName", KeyError, "name"), ("TooMany", OverflowError, "limit"),
            ("Refuted", ArithmeticError, "paper"), ("Driven", RuntimeError, "paper"), ("NothingToUndo", LookupError, "many"),
        ):
            error = getattr(errors, name)
            self.assertEqual(error.__bases__, (base,))
            self.assertEqual(getattr(error("kept"), attribute), "kept")


class Guarantee(Case):
    def test_plans_and_runs_in_a_house(self):
        decided_as = {True: 0, False: 0}
        for seed in range(120, 135):
            house = House()
            for record, word, value in house_answers.some_history(seed, 25):
                if word == "memory":
                    continue
                calls = {"apply": lambda: house.apply(*value), "undo": lambda: house.undo(count=value), "redo": lambda: house.redo(count=value)}
                try:
                    {"apply": record.apply, "undo": record.undo, "redo": record.redo}[word](value)
                except house_answers.OWN:
                    self.assertRaises(house_answers.OWN, calls[word])
                    continue
                calls[word]()
            for value in [*house.plans.values(), *[run.rest for run in house.runs.values()]]:
                paper = paper_of(value)
                self.assertIs(is_table_paper(value, paper), is_driven(value))
                self.assertIs(is_refutation(value, paper), not is_driven(value))
                decided_as[is_driven(value)] += 1
            for run in house.runs.values():
                if run.plan.horizon <= 6 and len(run.left) <= 3:
                    game = game_answers.Game(run.plan)
                    self.assertIs(is_driven(run.rest), game_answers.is_driven_from(game, run))
        self.assertGreater(min(decided_as.values()), 5)

    def test_exactly_one_kind_of_paper(self):
        for plan in time_answers.some_plans(80, 651, steps=3):
            self.assertIs(tables.derived_table(plan) is None, refutations.refutation(plan) is not None)

    def test_an_event_that_must_wait_cannot_wait_for_one_fixed_tick(self):
        # In NEAR the event waits until the end was heard, or until tick 3; neither tick 3 nor an earlier one would do.
        plain, late = derived_table(NEAR)
        self.assertEqual((late[("v", "c")], plain[("v", "start")]), (-3, -1))
        self.assertIs(is_driven(NEAR.with_bound("v", "start", -3)), False)
        for tick in range(11):
            self.assertIs(policies.is_safe(NEAR, {(tick, ()): ("v",), **{(tick, (("c", c),)): ("v",) for c in range(1, 6)}}), False)

    def test_the_derived_table_does_not_depend_on_names(self):
        chance = random.Random(652)
        for plan in time_answers.some_plans(60, 653, steps=3):
            new = dict(zip(plan.points[1:], chance.sample("bdefghijklnoprstuy", len(plan) - 1)))
            other = plan.renamed_by(new)
            table = derived_table(plan)
            if table is None:
                self.assertIsNone(derived_table(other))
                continue
            new["start"] = "start"
            for one, two in zip(table, derived_table(other)):
                self.assertEqual({(new[u], new[v]): one[(u, v)] for u, v in one}, two)


if __name__ == "__main__":
    unittest.main()
