"""Houses: their edits, groups that are undone and made again, memory and trials ([19.1], [19.2], stage 19)."""

import unittest

from heardlate.drive.drivers import EagerDriver
from heardlate.errors import (
    InvalidEdit, InvalidNumber, InvalidOperation, InvalidPlan, InvalidRun, NothingToUndo, TooMany, UnknownName,
)
from heardlate.facts.decided import is_driven
from heardlate.house import house as module
from heardlate.house.house import House
from heardlate.plans.plans import Plan
from heardlate.runs.runs import Run
from tests import house_answers
from tests.samples import EXACT, FIVE_STEPS, NEAR, ODD, TEN_EVENTS, Case

TWO = Plan(
    9, events=("v", "w"), steps=(("c", "start", 1, 4, 1), ("d", "v", 2, 3, 0)), bounds=(("v", "w", 5), ("w", "d", 3)),
)
PUT = (("plan", "near", NEAR), ("plan", "two", TWO), ("run", "one", "near"), ("run", "other", "two"))
WORDS = {"plan": 3, "bound": 5, "step": 7, "rename": 3, "drop": 2, "run": 3, "hear": 3, "do": 3, "wait": 3}
# An edit of each form that can be made in the house below.
EDITS = (
    ("plan", "new", EXACT), ("bound", "near", "v", "c", 3), ("step", "near", "c", "start", 1, 6, 0), ("rename", "near", "far"),
    ("drop", "one"), ("run", "third", "near"), ("hear", "other", ("c",)), ("do", "other", ("v", "w")), ("wait", "one", 2),
)


def begun():
    """A house in which the run other has waited so that c can be heard."""
    house = House()
    house.apply(*PUT)
    house.apply(("wait", "other", 3))
    return house


def state_of(house):
    return house.plans, house.runs, house.log(), house.answers, house.memory, list(house.news())


class Names(Case):
    def test_modules(self):
        self.assertEqual(House.__module__, "heardlate.house.house")
        for name in (
            "__init__", "__getitem__", "__contains__", "__len__", "__eq__", "__str__", "plans", "runs", "answers", "memory",
            "set_memory", "watch", "unwatch", "news", "apply", "apply_all", "undo", "redo", "log", "tried", "trial", "during",
        ):
            self.assertIn(name, vars(module.House))

    def test_an_empty_house(self):
        house = House()
        self.assertEqual((house.plans, house.runs, house.answers, house.memory, house.log()), ({}, {}, {}, 100, ()))
        self.assertEqual((len(house), str(house), list(house.news())), (0, "house of 0 plans, 0 runs", []))
        self.refuses(TypeError, House, 1)

    def test_plans_and_runs(self):
        house = begun()
        self.assertEqual(house.plans, {"near": NEAR, "two": TWO})
        self.assertEqual(house.runs, {"one": Run(NEAR), "other": Run(TWO).wait(ticks=3)})
        self.assertEqual((list(house.plans), list(house.runs)), (["near", "two"], ["one", "other"]))
        self.assertEqual([house["near"], house["other"]], [NEAR, Run(TWO).wait(ticks=3)])
        self.assertEqual((len(house), str(house)), (4, "house of 2 plans, 2 runs"))
        for name in ("near", "two", "one", "other"):
            self.assertIs(name in house, True)
        for name in ODD + ("v", "c", "NEAR", ("near",), ["near"], NEAR, "nea"):
            self.assertIs(name in house, False)
            self.keeps(UnknownName, "name", name, house.__getitem__, name)

    def test_names_ascend(self):
        house = House()
        for name in ("z", "b", "m"):
            house.apply(("plan", name, NEAR), ("run", name + "r", name))
        self.assertEqual((list(house.plans), list(house.runs)), (["b", "m", "z"], ["br", "mr", "zr"]))

    def test_no_iteration(self):
        for house in (House(), begun()):
            self.assertRaises(TypeError, iter, house)
            self.assertRaises(TypeError, list, house)
            self.assertRaises(TypeError, sorted, house)

    def test_properties_cannot_be_assigned(self):
        house = begun()
        for name in ("plans", "runs", "answers"):
            self.assertRaises(AttributeError, setattr, house, name, {})

    def test_nothing_gives_access(self):
        house = begun()
        house.watch("w", ("verdicts", "one"))
        before = state_of(house)
        house.plans.clear()
        house.runs.clear()
        house.answers.clear()
        house.answers["w"].clear()
        house.tried()["w"].clear()
        self.assertEqual(state_of(house), before)
        plans = house.plans
        house.apply(("drop", "one"), ("rename", "near", "far"))
        self.assertEqual(plans, {"near": NEAR, "two": TWO})

    def test_equality(self):
        self.assertEqual(House(), House())
        one, other = begun(), begun()
        self.assertIs(one == other, True)
        self.assertIs(one != other, False)
        other.watch("w", ("driven", "near"))
        other.memory = 3
        self.assertEqual(one, other)
        other.apply(("wait", "one", 1))
        self.assertIs(one == other, False)
        self.assertIs(one != other, True)
        other.undo()
        self.assertEqual(one, other)
        # The same plans and runs by other groups are not equal.
        third = House()
        third.apply(*PUT, ("wait", "other", 3))
        self.assertEqual((third.plans, third.runs), (one.plans, one.runs))
        self.assertNotEqual(third, one)
        for value in ODD + (one.plans, one.log(), str(one)):
            if not isinstance(value, House):
                self.assertIs(one == value, False)
                self.assertIs(value == one, False)


class Edits(Case):
    def test_each_form(self):
        for edit, plans, runs in zip(EDITS, (
            {"near": NEAR, "new": EXACT, "two": TWO}, {"near": NEAR.with_bound("v", "c", 3), "two": TWO},
            {"near": NEAR.with_span("c", 1, 6), "two": TWO}, {"far": NEAR, "two": TWO}, *[{"near": NEAR, "two": TWO}] * 5,
        ), (
            {}, {"one": Run(NEAR.with_bound("v", "c", 3))}, {"one": Run(NEAR.with_span("c", 1, 6))}, {}, {"one": None},
            {"third": Run(NEAR)}, {"other": Run(TWO).wait(ticks=3).hear("c")}, {"other": Run(TWO).wait(ticks=3).do("v", "w")},
            {"one": Run(NEAR).wait(ticks=2)},
        )):
            house = begun()
            runs = {**house.runs, **runs}
            self.assertEqual(house.apply(edit), 3)
            self.assertEqual(house.plans, plans)
            self.assertEqual(house.runs, {name: runs[name] for name in sorted(runs) if runs[name] is not None})
            self.assertEqual(house.log(), (PUT, (("wait", "other", 3),), (edit,)))

    def test_bounds(self):
        house = begun()
        house.apply(("bound", "near", "v", "c", None))
        self.assertEqual(house["near"], NEAR.without_bound("v", "c"))
        self.assertEqual(house["one"], Run(NEAR.without_bound("v", "c")))
        house.apply(("bound", "near", "start", "v", -999))
        self.assertEqual(house["near"].bounds, (("c", "v", 1), ("start", "v", -999)))
        for edit, error, name in (
            (("bound", "near", "x", "c", 1), UnknownName, "x"), (("bound", "near", "v", "y", None), UnknownName, "y"),
            (("bound", "near", "x", "y", None), UnknownName, "x"), (("bound", "none", "x", "c", 1), UnknownName, "none"),
            (("bound", "one", "v", "c", 1), UnknownName, "one"),
        ):
            self.keeps(error, "name", name, house.apply, edit)
        self.refuses(InvalidOperation, house.apply, ("bound", "near", "v", "c", None))
        for edit in (("bound", "near", "v", "c", 1000), ("bound", "near", "v", "c", True), ("bound", "near", "v", "v", 1)):
            self.refuses(InvalidPlan, house.apply, edit)
        self.refuses(InvalidOperation, house.apply, ("bound", "near", "v", "v", None))

    def test_steps(self):
        house = begun()
        house.apply(("step", "two", "d", "w", 1, 9, None))
        self.assertEqual(house["two"].step("d"), ("d", "w", 1, 9, None))
        self.keeps(UnknownName, "name", "e", house.apply, ("step", "two", "e", "w", 1, 9, None))
        self.keeps(UnknownName, "name", "v", house.apply, ("step", "two", "v", "w", 0, 9, None))
        self.keeps(UnknownName, "name", "start", house.apply, ("step", "two", "start", "w", 1, 9, None))
        self.keeps(UnknownName, "name", "none", house.apply, ("step", "none", "e", "w", 1, 9, None))
        for values in (("x", 1, 9, None), ("w", 0, 9, 0), ("w", 3, 2, 0), ("w", 1, 100, 0), ("w", 1, 9, 100), ("w", True, 9, 0),
                       ("w", 1, 9, True), (None, 1, 9, 0), ("c", 1, 9, 0)):
            self.refuses(InvalidPlan, house.apply, ("step", "two", "d", *values))

    def test_renames(self):
        house = begun()
        house.apply(("rename", "two", "three"), ("rename", "other", "another"))
        self.assertEqual((list(house.plans), list(house.runs)), (["near", "three"], ["another", "one"]))
        # The runs of a plan stay with it.
        house.apply(("bound", "three", "v", "w", 6))
        self.assertEqual(house["another"].plan, TWO.with_bound("v", "w", 6))
        self.refuses(InvalidEdit, house.apply, ("drop", "three"))
        house.apply(("rename", "near", "two"), ("run", "other", "two"))
        self.assertEqual(house["other"], Run(NEAR))
        for edit in (
            ("rename", "two", "two"), ("rename", "two", "three"), ("rename", "two", "one"), ("rename", "one", "two"),
            ("rename", "two", "TWO"), ("rename", "two", "abcdefghi"), ("rename", "two", None), ("rename", "none", "two"),
            ("rename", "none", "Two"), ("rename", None, ""), ("rename", "two", ["far"]), ("rename", "two", ("far",)),
        ):
            self.refuses(InvalidEdit, house.apply, edit)
        self.keeps(UnknownName, "name", "none", house.apply, ("rename", "none", "far"))
        self.keeps(UnknownName, "name", ["two"], house.apply, ("rename", ["two"], "far"))
        house.apply(("rename", "three", "start"))
        self.assertIn("start", house)

    def test_drops(self):
        house = begun()
        for name in ("near", "two"):
            self.refuses(InvalidEdit, house.apply, ("drop", name))
        house.apply(("drop", "one"), ("drop", "near"))
        self.assertEqual((house.plans, list(house.runs)), ({"two": TWO}, ["other"]))
        for name in ("near", "one", None, ["two"], True, ("two",), "start"):
            self.keeps(UnknownName, "name", name, house.apply, ("drop", name))

    def test_new_names(self):
        house = begun()
        for name in ("one", "other", "BAD", "", "abcdefghi", None, 1, True, ["new"], ("new",), NEAR):
            self.refuses(InvalidEdit, house.apply, ("plan", name, NEAR))
            self.refuses(InvalidEdit, house.apply, ("plan", name, None))
        for name in ("one", "other", "near", "two", "BAD", "", "abcdefghi", None, 1, True, ["new"], ("new",), NEAR):
            self.refuses(InvalidEdit, house.apply, ("run", name, "near"))
            self.refuses(InvalidEdit, house.apply, ("run", name, "none"))
        for value in ODD:
            if not isinstance(value, Plan):
                self.refuses(InvalidPlan, house.apply, ("plan", "near", value))
                self.refuses(InvalidPlan, house.apply, ("plan", "new", value))
            self.keeps(UnknownName, "name", value, house.apply, ("run", "new", value))
        self.keeps(UnknownName, "name", "one", house.apply, ("run", "new", "one"))
        house.apply(("plan", "abcdefgh", NEAR), ("run", "a", "abcdefgh"))
        self.assertEqual(len(house), 6)

    def test_moves(self):
        house = begun()
        for word, value in (("hear", ("c",)), ("do", ("v",)), ("wait", 1)):
            for name in ("near", "none", None, ["other"], True, ("other",)):
                self.keeps(UnknownName, "name", name, house.apply, (word, name, value))
        for value in ODD:
            if not isinstance(value, tuple):
                self.refuses(InvalidEdit, house.apply, ("hear", "other", value))
                self.refuses(InvalidEdit, house.apply, ("do", "none", value))
            if type(value) is not int or not 1 <= value <= 400:
                self.keeps(InvalidNumber, "value", value, house.apply, ("wait", "other", value))
        self.keeps(UnknownName, "name", "v", house.apply, ("hear", "other", ("v",)))
        self.keeps(UnknownName, "name", "c", house.apply, ("do", "other", ("c",)))
        self.keeps(UnknownName, "name", 1, house.apply, ("do", "other", ("v", 1)))
        self.refuses(InvalidOperation, house.apply, ("hear", "other", ("d",)))
        self.refuses(InvalidOperation, house.apply, ("hear", "other", ("c", "c")))
        self.refuses(InvalidOperation, house.apply, ("do", "other", ("v", "v")))
        self.refuses(InvalidOperation, house.apply, ("wait", "other", 3))
        house.apply(("hear", "other", ()), ("do", "other", ()), ("do", "other", ("w", "v")), ("wait", "other", 1))
        self.assertEqual(house["other"], Run(TWO).wait(ticks=3).do("v", "w").wait())

    def test_what_is_no_edit(self):
        house = begun()
        before = state_of(house)
        for value in ODD + tuple(list(edit) for edit in EDITS):
            self.refuses(InvalidEdit, house.apply, value)
            self.refuses(InvalidEdit, house.tried, value)
            self.refuses(InvalidEdit, house.apply_all, (value,))
        for edit in EDITS:
            for value in (edit[:-1], edit + (None,), edit[1:], (edit[0].upper(),) + edit[1:], (edit,), edit[:1]):
                self.refuses(InvalidEdit, house.apply, value)
            for word in WORDS:
                if WORDS[word] != len(edit):
                    self.refuses(InvalidEdit, house.apply, (word,) + edit[1:])
            for word in (None, True, 0, ("plan",), ["plan"], "Plan", "", "plans", "undo", NEAR):
                self.refuses(InvalidEdit, house.apply, (word,) + edit[1:])
        self.refuses(InvalidEdit, house.apply, ("hear", "other", ["c"]))
        self.refuses(InvalidEdit, house.apply, ("do", "other", "v"))
        self.refuses(InvalidEdit, house.apply, ("hear", "none", None))
        self.assertEqual(state_of(house), before)

    def test_errors_of_plans_that_grow_too_large(self):
        house = House()
        house.apply(("plan", "full", Plan(9, events=TEN_EVENTS, steps=FIVE_STEPS)))
        house.apply(("step", "full", "p", "a", 1, 3, None))
        self.assertEqual(house["full"].step("p"), ("p", "a", 1, 3, None))


class Runs(Case):
    def test_runs_go_on_with_the_edited_plan(self):
        house = begun()
        house.apply(("hear", "other", ("c",)), ("do", "other", ("v",)), ("wait", "other", 1))
        for edit in (
            ("bound", "two", "v", "w", 1), ("bound", "two", "w", "v", 3), ("step", "two", "c", "start", 2, 2, 1),
            ("step", "two", "d", "v", 1, 9, None), ("plan", "two", TWO.with_event("x").with_horizon(3)),
            ("plan", "two", TWO.with_step("e", "w", 1, 1, 0)), ("plan", "two", TWO), ("plan", "two", TWO.without("d")),
        ):
            with house.trial():
                house.apply(edit)
                plan = house["two"]
                self.assertEqual(house["other"], Run(plan).wait(ticks=3).hear("c").do("v").wait())
                self.assertEqual(house["one"], Run(NEAR))

    def test_news_come_in_the_same_tick(self):
        house = begun()
        house.apply(("hear", "other", ("c",)))
        self.assertEqual(house["other"].times, {"c": 2, "start": 0})
        house.apply(("step", "two", "c", "start", 1, 4, 0))
        self.assertEqual(house["other"].times, {"c": 3, "start": 0})
        house.apply(("step", "two", "c", "start", 1, 4, 2))
        self.assertEqual(house["other"].times, {"c": 1, "start": 0})
        self.refuses(InvalidRun, house.apply, ("step", "two", "c", "start", 1, 4, 3))
        self.refuses(InvalidRun, house.apply, ("step", "two", "c", "start", 1, 4, None))
        self.refuses(InvalidRun, house.apply, ("step", "two", "c", "start", 2, 4, 2))
        self.refuses(InvalidRun, house.apply, ("step", "two", "c", "v", 1, 4, 2))
        self.assertEqual(house["other"].times, {"c": 1, "start": 0})

    def test_what_is_not_possible_any_more(self):
        house = begun()
        house.apply(("do", "other", ("v",)), ("wait", "other", 2), ("hear", "other", ("c", "d")), ("wait", "other", 3))
        before = state_of(house)
        for edit in (
            ("plan", "two", TWO.with_horizon(2)), ("plan", "two", NEAR), ("plan", "two", TWO.renamed(v="x")),
            ("plan", "two", TWO.renamed(c="x")), ("step", "two", "d", "v", 1, 1, 0), ("step", "two", "d", "v", 3, 3, 0),
            ("step", "two", "d", "w", 2, 3, 0), ("step", "two", "d", "v", 2, 3, 1), ("step", "two", "c", "start", 1, 3, 1),
            ("plan", "two", Plan(0)), ("plan", "two", TWO.renamed(v="c", c="v")), ("plan", "two", TWO.with_step("e", "start", 1, 2, 0)),
        ):
            self.refuses(InvalidRun, house.apply, edit)
            self.refuses(InvalidRun, house.tried, edit)
        self.assertEqual(state_of(house), before)
        # Without the run nothing hinders, and edits that cannot be made are found first.
        self.refuses(InvalidPlan, house.apply, ("step", "two", "d", "w", 2, 1, 0))
        house.apply(("drop", "other"), ("plan", "two", Plan(0)))

    def test_news_that_would_have_come(self):
        house = House()
        house.apply(("plan", "p", NEAR), ("run", "r", "p"), ("wait", "r", 4))
        for most in (1, 2, 3):
            self.refuses(InvalidRun, house.apply, ("step", "p", "c", "start", 1, most, 0))
        # At tick 4, before its news, it can still come.
        house.apply(("step", "p", "c", "start", 1, 4, 0))
        house.undo()
        house.apply(("do", "r", ()))
        self.refuses(InvalidRun, house.apply, ("step", "p", "c", "start", 1, 4, 0))
        house.apply(("step", "p", "c", "start", 1, 5, 0))

    def test_the_side_of_the_news_stays(self):
        house = begun()
        for move in (("do", "other", ()), ("wait", "other", 1), ("hear", "other", ("c",))):
            house.apply(move)
            run = house["other"]
            house.apply(("bound", "two", "v", "w", 7))
            moved = house["other"]
            self.assertEqual((moved.tick, moved.is_behind, moved.times), (run.tick, run.is_behind, run.times))
            self.assertEqual(moved.plan, house["two"])

    def test_one_of_several_runs_is_not_possible(self):
        house = begun()
        house.apply(("run", "third", "two"), ("do", "third", ("w",)))
        self.refuses(InvalidRun, house.apply, ("plan", "two", TWO.without_bound("v", "w").without_bound("w", "d").without("w")))
        house.apply(("drop", "third"), ("plan", "two", TWO.without("w")))
        self.assertEqual(house["other"], Run(TWO.without("w")).wait(ticks=3))

    def test_long_runs(self):
        house = House()
        house.apply(("plan", "p", NEAR), ("run", "r", "p"), ("wait", "r", 5), ("hear", "r", ("c",)), ("wait", "r", 395))
        self.assertEqual(house["r"].tick, 400)
        house.apply(("step", "p", "c", "start", 1, 9, 0), ("do", "r", ()), ("step", "p", "c", "start", 5, 9, 0))
        self.assertEqual((house["r"].tick, house["r"].is_behind, house["r"].times), (400, True, {"c": 5, "start": 0}))
        self.refuses(InvalidOperation, house.apply, ("wait", "r", 1))

    def test_the_main_guarantee(self):
        # Whatever edits led to it, a driver of a plan of the house goes on safely from its run.
        house = begun()
        house.apply(("plan", "two", NEAR.with_event("w")))
        self.assertIs(is_driven(house["other"].rest), True)
        house.undo()
        house.apply(("drop", "other"), ("run", "other", "near"))
        driver = EagerDriver(house["near"])
        while driver.tick < 4:
            done = driver()
            house.apply(("hear", "other", ()), ("do", "other", done), ("wait", "other", 1))
            self.assertIs(is_driven(house["other"].rest), True)
        self.assertEqual(house["other"].times, {"start": 0, "v": 3})


class Groups(Case):
    def test_numbers_of_groups(self):
        house = House()
        self.assertEqual([house.apply(*PUT), house.apply_all((("wait", "one", 1),)), house.undo(), house.redo()], [1, 2, 1, 2])
        self.assertEqual([house.undo(count=2), house.redo(count=1), house.undo(count=0), house.redo(count=0)], [0, 1, 1, 1])
        self.assertEqual(house.log(), (PUT,))
        self.assertEqual([house.redo(), house.log()], [2, (PUT, (("wait", "one", 1),))])

    def test_no_edits(self):
        house = begun()
        house.watch("w", ("driven", "near"))
        house.apply(("bound", "near", "c", "v", -9))
        house.undo()
        before = state_of(house)
        self.assertEqual([house.apply(), house.apply_all(()), house.undo(count=0), house.redo(count=0)], [2, 2, 2, 2])
        self.assertEqual(state_of(house), before)
        self.assertEqual(house.redo(), 3)
        self.assertEqual(House().apply(), 0)

    def test_apply_all_takes_a_tuple(self):
        house = begun()
        for value in ODD + ([("wait", "one", 1)], {}, "wait"):
            if not isinstance(value, tuple):
                self.refuses(InvalidEdit, house.apply_all, value)
            elif value != ():
                self.refuses(InvalidEdit, house.apply_all, value)
        self.assertEqual(house.apply_all(edits=(("wait", "one", 1),)), 3)

    def test_the_first_wrong_edit_counts(self):
        house = begun()
        before = state_of(house)
        right = ("wait", "one", 1)
        for edits, error in (
            ((right, None), InvalidEdit), ((right, ("drop", "none"), None), UnknownName), ((("drop", "none"), right), UnknownName),
            ((right, ("wait", "one", 0), ("drop", "none")), InvalidNumber), ((right, ("plan", "x", 1), ("x",)), InvalidPlan),
            ((("drop", "near"), ("drop", "none")), InvalidEdit), ((right, ("hear", "one", ("v",)), ("drop",)), UnknownName),
            ((right, ("step", "near", "c", "v", 1, 2, 0), ("hear", "one", ("c",)), ("wait", "one", 999)), InvalidOperation),
            ((("bound", "near", "v", "v", 1), ("drop", "none")), InvalidPlan),
            ((right, right, right, right, right, ("step", "near", "c", "start", 1, 4, 0), None), InvalidRun),
        ):
            for call in (house.apply, house.tried):
                self.refuses(error, call, *edits)
            self.refuses(error, house.apply_all, edits)
            self.assertEqual(state_of(house), before)
        self.assertEqual(house.redo(count=0), 2)

    def test_an_edit_sees_those_in_front_of_it(self):
        house = House()
        house.apply(
            ("plan", "a", NEAR), ("run", "b", "a"), ("rename", "a", "c"), ("wait", "b", 1), ("hear", "b", ("c",)), ("rename", "b", "a"),
            ("do", "a", ("v",)), ("run", "d", "c"), ("drop", "d"), ("plan", "d", NEAR),
        )
        self.assertEqual((house.plans, house.runs), ({"c": NEAR, "d": NEAR}, {"a": Run(NEAR).wait().hear("c").do("v")}))

    def test_undo_and_redo_check_their_count(self):
        house = begun()
        house.apply(("wait", "one", 1))
        house.undo()
        for call in (house.undo, house.redo):
            for value in ODD + (-1, True):
                if type(value) is not int or value < 0:
                    self.keeps(InvalidNumber, "value", value, call, count=value)
            for value in (3, 4, 100, 10 ** 39):
                self.keeps(NothingToUndo, "many", value, call, count=value)
        self.keeps(NothingToUndo, "many", 2, house.redo, count=2)
        self.assertEqual([len(house.log()), house.redo(), house.undo(count=3)], [2, 3, 0])
        self.keeps(NothingToUndo, "many", 1, house.undo)
        self.keeps(NothingToUndo, "many", 1, House().redo)
        self.refuses(TypeError, house.undo, 1)
        self.refuses(TypeError, house.redo, 1)

    def test_a_new_group_ends_what_was_undone(self):
        house = begun()
        house.apply(("wait", "one", 1))
        house.undo(count=2)
        house.apply(("wait", "one", 2))
        self.keeps(NothingToUndo, "many", 1, house.redo)
        self.assertEqual(house.undo(), 1)
        # A group that cannot be made ends nothing.
        self.refuses(InvalidNumber, house.apply, ("wait", "one", 0))
        self.assertEqual(house.redo(), 2)
        self.assertEqual(house["one"].tick, 2)

    def test_groups_are_handed_out(self):
        house = begun()
        self.assertEqual(house.log(), (PUT, (("wait", "other", 3),)))
        self.assertIsInstance(house.log(), tuple)
        house.undo()
        self.assertEqual(house.log(), (PUT,))

    def test_arguments_stay(self):
        edits = PUT + (("hear", "one", ()), ("do", "one", ("v",)))
        before = PUT + (("hear", "one", ()), ("do", "one", ("v",)))
        House().apply_all(edits)
        self.assertEqual(edits, before)


class Memory(Case):
    def test_a_hundred_groups_and_one_more(self):
        house = House()
        house.apply(("plan", "p", NEAR), ("run", "r", "p"))
        for many in range(2, 101):
            self.assertEqual(house.apply(("bound", "p", "start", "v", many)), many)
        self.assertEqual(house.undo(count=100), 0)
        self.assertEqual(house.redo(count=100), 100)
        self.assertEqual(house.apply(("bound", "p", "start", "v", 101)), 101)
        self.keeps(NothingToUndo, "many", 101, house.undo, count=101)
        self.assertEqual([house.undo(count=100), house["p"], len(house.log())], [1, NEAR, 1])
        self.keeps(NothingToUndo, "many", 1, house.undo)
        self.assertEqual(house.redo(count=100), 101)
        self.assertEqual(house["p"].bound("start", "v"), 101)

    def test_numbers(self):
        house = begun()
        for value in (0, 1, 50, 100):
            house.memory = value
            self.assertEqual(house.memory, value)
            self.assertIsNone(house.set_memory(100 - value))
            self.assertEqual(house.memory, 100 - value)
        for value in ODD + (-1, 101, True):
            if type(value) is not int or not 0 <= value <= 100:
                self.keeps(InvalidNumber, "value", value, house.set_memory, value)
                self.keeps(InvalidNumber, "value", value, setattr, house, "memory", value)
        self.assertEqual(house.memory, 0)
        self.assertIsNone(house.set_memory(most=7))

    def test_a_lesser_memory_forgets_for_good(self):
        house = House()
        house.apply(("plan", "p", NEAR), ("run", "r", "p"))
        for _ in range(4):
            house.apply(("wait", "r", 1))
        house.memory = 2
        self.assertEqual(len(house.log()), 5)
        house.memory = 100
        self.keeps(NothingToUndo, "many", 3, house.undo, count=3)
        self.assertEqual(house.undo(count=2), 3)
        self.keeps(NothingToUndo, "many", 1, house.undo)
        self.assertEqual(house["r"].tick, 2)
        house.apply(("wait", "r", 1))
        self.assertEqual(house.undo(), 3)

    def test_no_memory(self):
        house = House()
        house.memory = 0
        self.assertEqual(house.apply(*PUT), 1)
        self.keeps(NothingToUndo, "many", 1, house.undo)
        self.assertEqual((house.undo(count=0), len(house)), (1, 4))
        house.memory = 1
        self.keeps(NothingToUndo, "many", 1, house.undo)
        house.apply(("wait", "one", 1))
        house.apply(("wait", "one", 1))
        self.keeps(NothingToUndo, "many", 2, house.undo, count=2)
        self.assertEqual([house.undo(), house["one"].tick], [2, 1])

    def test_undone_groups_can_be_made_again_behind_a_lesser_memory(self):
        house = House()
        house.apply(("plan", "p", NEAR), ("run", "r", "p"))
        for _ in range(4):
            house.apply(("wait", "r", 1))
        house.undo(count=3)
        house.memory = 1
        self.assertEqual(house.redo(count=2), 4)
        self.keeps(NothingToUndo, "many", 2, house.undo, count=2)
        self.assertEqual([house.redo(), house["r"].tick, house.undo(), house["r"].tick], [5, 4, 4, 3])
        self.keeps(NothingToUndo, "many", 1, house.undo)
        house.memory = 0
        self.assertEqual([house.redo(), house["r"].tick], [5, 4])
        self.keeps(NothingToUndo, "many", 1, house.undo)

    def test_the_memory_is_not_undone(self):
        house = begun()
        house.memory = 7
        house.undo()
        self.assertEqual(house.memory, 7)


class Trials(Case):
    def test_tried(self):
        house = begun()
        house.watch("w", ("driven", "near"))
        house.apply(("wait", "one", 1))
        house.undo()
        before = state_of(house)
        self.assertEqual(house.tried(("bound", "near", "c", "v", -9)), {"w": False})
        self.assertEqual(house.tried(("rename", "near", "far")), {"w": "undefined"})
        self.assertEqual(house.tried(), {"w": True})
        self.assertEqual(state_of(house), before)
        self.assertEqual(house.redo(), 3)

    def test_during(self):
        house = begun()
        house.watch("w", ("driven", "near"))
        house.apply(("bound", "near", "v", "c", 1))
        house.undo()
        before = state_of(house)

        def call(given):
            self.assertIs(given, house)
            given.undo()
            given.apply(("drop", "one"))
            given.memory = 0
            given.watch("x", ("driven", "two"))
            given.watch("w", ("driven", "x"))
            given.unwatch("x")
            return len(given.log()), given.runs

        self.assertEqual(house.during(call), (2, {"other": Run(TWO)}))
        self.assertEqual(state_of(house), before)
        self.assertEqual(house.redo(), 3)
        self.assertEqual(house.during(call=str), "house of 2 plans, 2 runs")

    def test_calls_that_raise_an_error(self):
        house = begun()
        before = state_of(house)

        def call(given):
            given.apply(("drop", "one"))
            given.apply(("drop", "one"))

        self.keeps(UnknownName, "name", "one", house.during, call)
        self.assertEqual(state_of(house), before)

        def other(given):
            given.apply(("drop", "one"))
            raise KeyboardInterrupt

        self.assertRaises(KeyboardInterrupt, house.during, other)
        self.assertEqual(state_of(house), before)

    def test_trials(self):
        house = begun()
        before = state_of(house)
        with house.trial():
            house.apply(("drop", "one"))
            house.memory = 3
            house.watch("w", ("driven", "two"))
            self.assertEqual((len(house), house.answers), (3, {"w": True}))
        self.assertEqual(state_of(house), before)
        with self.assertRaises(UnknownName) as caught:
            with house.trial():
                house.apply(("drop", "one"))
                house.apply(("drop", "none"))
        self.assertEqual(caught.exception.name, "none")
        self.assertEqual(state_of(house), before)

    def test_trials_in_trials(self):
        house = begun()
        before = state_of(house)
        with house.trial():
            house.apply(("drop", "one"))
            inside = state_of(house)
            with house.trial():
                house.undo(count=3)
                self.assertEqual(len(house), 0)
                house.during(lambda given: given.apply(("plan", "x", NEAR)))
                self.assertEqual(len(house), 0)
                house.apply(("plan", "y", NEAR))
            self.assertEqual(state_of(house), inside)
            self.assertRaises(UnknownName, house.during, lambda given: given.apply(("drop", "other"), ("drop", "one")))
            self.assertEqual(state_of(house), inside)
            self.assertEqual(house.undo(), 2)
        self.assertEqual(state_of(house), before)

    def test_a_trial_begins_with_the_with(self):
        house = begun()
        trial = house.trial()
        house.apply(("drop", "one"))
        before = state_of(house)
        for _ in range(2):
            with trial:
                house.apply(("drop", "other"))
                self.assertEqual(len(house), 2)
            self.assertEqual(state_of(house), before)

    def test_a_house_that_is_handed_on(self):
        house = begun()
        before = state_of(house)
        kept = []

        def call(given):
            kept.append(given)
            House().during(lambda other: given.apply(("drop", "one")))
            return given.log()

        self.assertEqual(len(house.during(call)), 3)
        self.assertEqual(state_of(house), before)
        kept[0].apply(("drop", "one"))
        self.assertEqual(len(house.log()), 3)

    def test_twins(self):
        house = begun()
        house.watch("w", ("driven", "near"))
        house.memory = 7
        house.apply(("wait", "one", 1))
        house.undo()
        twin = house.twin()
        self.assertEqual((twin, state_of(twin)), (house, state_of(house)))
        before = state_of(house)
        self.assertEqual([twin.redo(), twin.unwatch("w"), twin.answers], [3, None, {}])
        self.assertEqual(state_of(house), before)
        self.assertEqual(house.redo(), 3)

    def test_houses_are_independent(self):
        one, other = begun(), begun()
        one.apply(("drop", "one"))
        one.watch("w", ("driven", "near"))
        self.assertEqual((len(other), other.answers), (4, {}))


class Histories(Case):
    def test_against_a_plain_record(self):
        done = {True: 0, False: 0}
        raised = {}
        for seed in range(40):
            house = House()
            for record, word, value in house_answers.some_history(seed, 60):
                calls = {
                    "apply": (lambda: house.apply(*value), lambda: record.apply(value)),
                    "undo": (lambda: house.undo(count=value), lambda: record.undo(value)),
                    "redo": (lambda: house.redo(count=value), lambda: record.redo(value)),
                    "memory": (lambda: house.set_memory(value), lambda: record.set_memory(value)),
                }
                error, expected = outcome(calls[word][1])
                before = house.log()
                self.assertEqual(outcome(calls[word][0]), (error, expected), (seed, word, value))
                if error is not None:
                    self.assertEqual(house.log(), before)
                    raised[error] = raised.get(error, 0) + 1
                done[error is None] += 1
                self.assertEqual((house.plans, house.runs), (dict(sorted(record.plans.items())), record.all_runs()))
                self.assertEqual((house.log(), house.memory), (tuple(record.groups), record.memory))
                for name, (owner, _) in record.runs.items():
                    self.assertEqual(house[name].plan, house[owner])
            self.assertEqual(len(house), len(record.plans) + len(record.runs))
            # A new house into which the groups in effect are put is equal.
            other = House()
            for group in house.log():
                other.apply_all(group)
            self.assertEqual(other, house)
        self.assertGreater(min(done.values()), 300)
        for error in (InvalidEdit, InvalidOperation, InvalidPlan, InvalidRun, NothingToUndo, UnknownName):
            self.assertGreater(raised.get(error, 0), 3, raised)

    def test_undone_and_made_again(self):
        for seed in range(40, 55):
            house = House()
            states = [(house.plans, house.runs)]
            for record, word, value in house_answers.some_history(seed, 40):
                if word == "apply" and outcome(lambda: house.apply(*value))[0] is None:
                    record.apply(value)
                    if value:
                        states.append((house.plans, house.runs))
            many = len(states) - 1
            for place in range(many - 1, -1, -1):
                self.assertEqual(house.undo(), place)
                self.assertEqual((house.plans, house.runs), states[place])
            for place in range(1, many + 1):
                self.assertEqual(house.redo(), place)
                self.assertEqual((house.plans, house.runs), states[place])


def outcome(call):
    """The error that a call raises, or None, and what it returns."""
    try:
        return None, call()
    except (*house_answers.OWN, TooMany) as error:
        return type(error), getattr(error, "name", getattr(error, "value", getattr(error, "many", None)))


if __name__ == "__main__":
    unittest.main()
