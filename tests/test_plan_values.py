"""Plans: the call, Plan.of, properties, step, bound, in, len, ==, str ([0.8] to [0.11], stage 2)."""

import copy
import itertools
import unittest

from heardlate.errors import InvalidNumber, InvalidPlan, TooMany, UnknownName
from heardlate.plans import plans as module
from heardlate.plans.plans import MAX_EVENTS, MAX_HORIZON, MAX_STEPS, Plan
from tests.samples import EXACT, FIVE_STEPS, FORTY, NEAR, ODD, TEN_EVENTS, Case

STEP = ("c", "start", 1, 5, 0)
WRONG_EVENTS = (
    ("v", "v"), ("v", "w", "v"), ("start",), ("v", "start"), ("",), ("abcdefghi",), ("V",), ("v", 1), ("v", None),
    ("v", ["w"]), ("v", ("w",)), (True,), ["v"], {"v": 0}, "v", "vw", None, 0, True,
)
WRONG_STEPS = (
    ("c", "start", 1, 5), ("c", "start", 1, 5, 0, 0), ["c", "start", 1, 5, 0], (), "cs150", None, 1,
    ("", "start", 1, 5, 0), ("abcdefghi", "start", 1, 5, 0), ("C", "start", 1, 5, 0), (1, "start", 1, 5, 0),
    (None, "start", 1, 5, 0), (["c"], "start", 1, 5, 0), (("c",), "start", 1, 5, 0), (True, "start", 1, 5, 0),
    ("start", "start", 1, 5, 0), ("v", "start", 1, 5, 0), ("v", "v", 1, 5, 0),
    ("c", "w", 1, 5, 0), ("c", "c", 1, 5, 0), ("c", "", 1, 5, 0), ("c", None, 1, 5, 0), ("c", ["v"], 1, 5, 0),
    ("c", ("v",), 1, 5, 0), ("c", 0, 1, 5, 0), ("c", NEAR, 1, 5, 0), ("c", {}, 1, 5, 0),
    ("c", "v", 0, 5, 0), ("c", "v", -1, 5, 0), ("c", "v", 6, 5, 0), ("c", "v", 1, 100, 0), ("c", "v", 100, 100, 0),
    ("c", "v", 0, 0, 0), ("c", "v", True, 5, 0), ("c", "v", True, True, 0), ("c", "v", 1, True, 0),
    ("c", "v", "1", 5, 0), ("c", "v", 1, "5", 0), ("c", "v", None, 5, 0), ("c", "v", 1, None, 0),
    ("c", "v", (1,), 5, 0), ("c", "v", 1, [5], 0), ("c", "v", 1, FORTY, 0), ("c", "v", -FORTY, 5, 0),
    ("c", "v", FORTY, FORTY, 0), ("c", "v", 1, 5, -1), ("c", "v", 1, 5, 100), ("c", "v", 1, 5, True),
    ("c", "v", 1, 5, False), ("c", "v", 1, 5, "0"), ("c", "v", 1, 5, "never"), ("c", "v", 1, 5, ()),
    ("c", "v", 1, 5, (0,)), ("c", "v", 1, 5, FORTY), ("c", "v", 1, 5, -FORTY), ("c", "v", 1, 5, []),
)
WRONG_BOUNDS = (
    ("v", "c"), ("v", "c", 1, 1), ["v", "c", 1], (), "vc1", None, 1, ("v", "v", 1), ("start", "start", 0),
    ("c", "c", 1), ("v", "w", 1), ("w", "v", 1), ("v", "", 1), ("", "v", 1), (None, "v", 1), ("v", None, 1),
    (["v"], "c", 1), ("v", ["c"], 1), (("v",), "c", 1), (1, "c", 1), ("v", True, 1), (NEAR, "v", 1), ("v", {}, 1),
    ("v", "c", 1000), ("v", "c", -1000), ("v", "c", FORTY), ("v", "c", -FORTY), ("v", "c", True), ("v", "c", False),
    ("v", "c", None), ("v", "c", "1"), ("v", "c", (1,)), ("v", "c", [1]),
)


def of(horizon, *, events=(), steps=(), bounds=()):
    return Plan.of({"horizon": horizon, "events": events, "steps": steps, "bounds": bounds})


class Values(Case):
    def test_constants(self):
        self.assertEqual((MAX_EVENTS, MAX_STEPS, MAX_HORIZON), (10, 5, 99))
        self.assertEqual(Plan.__module__, module.__name__)

    def test_examples(self):
        self.assertEqual(NEAR.points, ("start", "v", "c"))
        self.assertEqual(NEAR.bounds, (("c", "v", 1), ("v", "c", 2)))
        self.assertEqual(NEAR.step("c"), ("c", "start", 1, 5, 0))
        self.assertEqual(str(NEAR), "plan of 1 events, 1 steps, 2 bounds")
        self.assertEqual(NEAR.bound("v", "c"), 2)
        self.assertIsNone(NEAR.bound("start", "v"))
        self.assertEqual(EXACT.bounds, (("c", "v", -1), ("v", "c", 1)))

    def test_nothing_but_a_horizon(self):
        for plan in (Plan(0), Plan.of({"horizon": 0})):
            self.assertEqual((plan.horizon, plan.events, plan.steps, plan.bounds), (0, (), (), ()))
            self.assertEqual((plan.ends, plan.points), ((), ("start",)))
            self.assertEqual(str(plan), "plan of 0 events, 0 steps, 0 bounds")
            self.assertEqual(len(plan), 1)

    def test_all_properties_ascend_whatever_the_order(self):
        events = ("b", "z", "a")
        steps = (("y", "start", 2, 3, None), ("c", "z", 1, 1, 99), ("d", "z", 1, 1, 0))
        bounds = (("z", "a", 4), ("start", "b", 9), ("c", "y", -3), ("a", "z", 0), ("c", "a", 5))
        for call in (Plan, of):
            for order in itertools.permutations(range(3)):
                plan = call(
                    7,
                    events=tuple(events[at] for at in order),
                    steps=tuple(steps[at] for at in order),
                    bounds=bounds[order[0]:] + bounds[: order[0]],
                )
                self.assertEqual(plan.horizon, 7)
                self.assertEqual(plan.events, ("a", "b", "z"))
                self.assertEqual(plan.steps, (steps[1], steps[2], steps[0]))
                self.assertEqual(plan.ends, ("c", "d", "y"))
                self.assertEqual(plan.points, ("start", "a", "b", "z", "c", "d", "y"))
                self.assertEqual(plan.bounds, (bounds[3], bounds[4], bounds[2], bounds[1], bounds[0]))

    def test_step(self):
        plan = Plan(5, events=("v",), steps=(("d", "v", 2, 3, None), STEP))
        self.assertEqual(plan.step("d"), ("d", "v", 2, 3, None))
        self.assertEqual(plan.step("c"), STEP)
        for value in ODD + ("v", "start", "e"):
            self.keeps(UnknownName, "name", value, plan.step, value)

    def test_bound(self):
        plan = Plan(5, events=("v", "w"), steps=(STEP,), bounds=(("v", "w", 0), ("w", "v", -9), ("start", "c", 5)))
        self.assertEqual(plan.bound("v", "w"), 0)
        self.assertEqual(plan.bound("w", "v"), -9)
        self.assertEqual(plan.bound("start", "c"), 5)
        self.assertIsNone(plan.bound("c", "start"))
        self.assertIsNone(plan.bound("v", "c"))
        self.assertIsNone(plan.bound("v", "v"))
        self.assertIsNone(plan.bound("start", "start"))
        for value in ODD:
            if value != "start":
                self.keeps(UnknownName, "name", value, plan.bound, value, "v")
                self.keeps(UnknownName, "name", value, plan.bound, "v", value)
        self.keeps(UnknownName, "name", "x", plan.bound, "x", "y")
        self.keeps(UnknownName, "name", "y", plan.bound, "v", "y")

    def test_in(self):
        plan = Plan(5, events=("v", "self"), steps=(STEP,))
        for value in ("start", "v", "self", "c"):
            self.assertIs(value in plan, True)
        for value in ODD + ("w", "st", "V", ("v",), ["v"], {"v": "v"}, plan):
            if value != "start":
                self.assertIs(value in plan, False)

    def test_len(self):
        self.assertEqual(len(Plan(5, events=("v", "w"), steps=(STEP,))), 4)
        self.assertEqual(len(Plan(5, events=TEN_EVENTS, steps=FIVE_STEPS)), 16)

    def test_str(self):
        plan = Plan(99, events=TEN_EVENTS, steps=FIVE_STEPS, bounds=(("a", "b", 1), ("b", "a", 1), ("p", "a", 1)))
        self.assertEqual(str(plan), "plan of 10 events, 5 steps, 3 bounds")
        self.assertEqual(str(Plan(99, events=("v", "w"), steps=(STEP,))), "plan of 2 events, 1 steps, 0 bounds")

    def test_equal(self):
        again = Plan(10, bounds=(("c", "v", 1), ("v", "c", 2)), steps=(STEP,), events=("v",))
        self.assertIs(NEAR == again, True)
        self.assertIs(NEAR != again, False)
        self.assertIs(NEAR == NEAR, True)
        for other in (
            EXACT,
            Plan(11, events=("v",), steps=(STEP,), bounds=NEAR.bounds),
            Plan(10, events=("v", "w"), steps=(STEP,), bounds=NEAR.bounds),
            Plan(10, events=("v",), steps=(("c", "start", 1, 5, 1),), bounds=NEAR.bounds),
            Plan(10, events=("v",), steps=(("c", "start", 1, 5, None),), bounds=NEAR.bounds),
            Plan(10, events=("v",), steps=(("c", "start", 1, 4, 0),), bounds=NEAR.bounds),
            Plan(10, events=("v",), steps=(("c", "v", 1, 5, 0),), bounds=NEAR.bounds),
            Plan(10, events=("v",), steps=(STEP,), bounds=NEAR.bounds[1:]),
            Plan(10, events=("v",), steps=(STEP,)),
        ):
            self.assertIs(NEAR == other, False)
            self.assertIs(other == NEAR, False)
            self.assertIs(NEAR != other, True)
        for value in ODD + (NEAR.points, NEAR.bounds, str(NEAR), {"horizon": 10}):
            if value is not NEAR:
                self.assertIs(NEAR == value, False)
                self.assertIs(NEAR != value, True)

    def test_no_iteration(self):
        for call in (iter, list, tuple, sorted, lambda plan: [*plan]):
            self.assertRaises(TypeError, call, NEAR)
        with self.assertRaises(TypeError):
            for _ in NEAR:
                pass

    def test_a_plan_never_changes(self):
        for name in ("horizon", "events", "steps", "bounds", "ends", "points"):
            with self.assertRaises(AttributeError):
                setattr(NEAR, name, getattr(EXACT, name))
            self.assertIs(type(getattr(NEAR, name)), int if name == "horizon" else tuple)
        self.assertTrue(all(type(part) is tuple for part in NEAR.steps + NEAR.bounds))

    def test_parts_are_passed_by_keyword(self):
        self.assertRaises(TypeError, Plan, 10, ("v",))
        self.assertRaises(TypeError, Plan)


class WrongValues(Case):
    def check(self, **parts):
        for call in (Plan, of):
            with self.subTest(call=call, **parts):
                self.refuses(InvalidPlan, call, 10, **parts)

    def test_horizon(self):
        for call in (Plan, of, lambda horizon: Plan.of({"horizon": horizon})):
            for horizon in (0, 1, 98, 99):
                self.assertEqual(call(horizon).horizon, horizon)
            for horizon in ODD + (-1, 100, 101, "10", (10,)):
                if type(horizon) is not int or not 0 <= horizon <= 99:
                    self.keeps(InvalidNumber, "value", horizon, call, horizon)

    def test_events(self):
        self.assertEqual(Plan(10, events=("self", "abcdefgh")).events, ("abcdefgh", "self"))
        for events in ODD + WRONG_EVENTS:
            if events not in ((), ("zz",)):
                self.check(events=events)

    def test_events_that_are_no_names_beside_names(self):
        for events in (("v", "c"), ("c",)):
            self.check(events=events, steps=(STEP,))

    def test_steps(self):
        for least, most, delay in ((1, 1, 0), (1, 99, 99), (99, 99, None), (4, 5, 98), (5, 5, 1)):
            for begin in ("start", "v"):
                step = ("c", begin, least, most, delay)
                self.assertEqual(Plan(0, events=("v",), steps=(step,)).steps, (step,))
        for steps in ODD + ([STEP], {STEP: STEP}, STEP):
            if steps != ():
                self.check(events=("v",), steps=steps)
        for step in WRONG_STEPS:
            self.check(events=("v",), steps=(step,))
            self.check(events=("v",), steps=(("d", "v", 1, 2, 3), step))
            self.check(events=("v",), steps=(step, ("d", "v", 1, 2, 3)))

    def test_ends_differ(self):
        self.check(steps=(STEP, STEP))
        self.check(steps=(STEP, ("c", "start", 1, 4, 0)))
        self.check(steps=(STEP, ("d", "start", 1, 4, 0), ("c", "start", 1, 5, None)))

    def test_no_step_begins_at_an_end(self):
        self.check(steps=(STEP, ("d", "c", 1, 1, 0)))

    def test_bounds(self):
        for most in (-999, -998, -1, 0, 1, 998, 999):
            for first, second in itertools.permutations(("start", "v", "c"), 2):
                bound = (first, second, most)
                self.assertEqual(Plan(0, events=("v",), steps=(STEP,), bounds=(bound,)).bounds, (bound,))
        for bounds in ODD + ([("v", "c", 1)], {("v", "c", 1): 1}, ("v", "c", 1)):
            if bounds != ():
                self.check(events=("v",), steps=(STEP,), bounds=bounds)
        for bound in WRONG_BOUNDS:
            self.check(events=("v",), steps=(STEP,), bounds=(bound,))
            self.check(events=("v",), steps=(STEP,), bounds=(("start", "v", 2), bound))
            self.check(events=("v",), steps=(STEP,), bounds=(bound, ("start", "v", 2)))

    def test_one_bound_for_each_pair(self):
        self.check(events=("v",), steps=(STEP,), bounds=(("v", "c", 1), ("v", "c", 2)))
        self.check(events=("v",), steps=(STEP,), bounds=(("v", "c", 1), ("v", "c", 1)))
        self.check(events=("v",), steps=(STEP,), bounds=(("v", "c", 1), ("c", "v", 1), ("v", "c", 3)))
        both = (("c", "v", 3), ("v", "c", 3))
        self.assertEqual(Plan(0, events=("v",), steps=(STEP,), bounds=both).bounds, both)

    def test_too_many(self):
        many = TEN_EVENTS + ("k",)
        six = FIVE_STEPS + (("u", "start", 1, 1, 0),)
        plan = Plan(99, events=TEN_EVENTS, steps=FIVE_STEPS)
        self.assertEqual((plan.events, plan.steps), (TEN_EVENTS, FIVE_STEPS))
        for call in (Plan, of):
            self.keeps(TooMany, "limit", 10, call, 1, events=many)
            self.keeps(TooMany, "limit", 10, call, 1, events=many, steps=FIVE_STEPS)
            self.keeps(TooMany, "limit", 5, call, 1, steps=six)
            self.keeps(TooMany, "limit", 5, call, 1, events=TEN_EVENTS, steps=six)
            self.keeps(TooMany, "limit", 10, call, 1, events=many, steps=six)
            self.keeps(TooMany, "limit", 10, call, 1, events=many + tuple("lmno"), bounds=(("a", "o", 1),))

    def test_order_of_errors(self):
        many = TEN_EVENTS + ("k",)
        six = FIVE_STEPS + (("u", "start", 1, 1, 0),)
        for call in (Plan, of):
            self.keeps(InvalidNumber, "value", 100, call, 100, events=("start",), steps=1, bounds=1)
            self.keeps(InvalidNumber, "value", 100, call, 100, events=many)
            self.refuses(InvalidPlan, call, 1, events=many + ("a",))
            self.refuses(InvalidPlan, call, 1, events=many, steps=(1,))
            self.refuses(InvalidPlan, call, 1, events=many, bounds=(("a", "a", 1),))
            self.refuses(InvalidPlan, call, 1, steps=six + six)
            self.refuses(InvalidPlan, call, 1, steps=six, bounds=[])
            self.refuses(InvalidPlan, call, 1, events=many, steps=six, bounds=(("a", "z", 1),))

    def test_of_takes_only_such_a_dict(self):
        for value in ODD + (
            {"events": ()}, {"horizon": 1, "event": ()}, {"horizon": 1, "ends": ()}, {"horizon": 1, "points": ()},
            {"horizon": 1, 0: 1}, {"horizon": 1, None: 1}, {"horizon": 1, True: 1}, {"horizon": 1, ("events",): ()},
            {"horizon": 1, "": ()}, {"Horizon": 1}, {"horizon": 100, "event": ()},
            {"horizon": 1, "events": (), "steps": (), "bounds": (), "more": ()},
            {"events": (), "steps": (), "bounds": ()}, (("horizon", 1),), [("horizon", 1)], ("horizon",), 10, "horizon",
        ):
            if value != {"horizon": -1}:
                self.refuses(InvalidPlan, Plan.of, value)
        self.keeps(InvalidNumber, "value", -1, Plan.of, {"horizon": -1})
        self.keeps(InvalidNumber, "value", None, Plan.of, {"horizon": None, "events": 1})

    def test_of(self):
        values = {"bounds": (("v", "c", 2), ("c", "v", 1)), "steps": (STEP,), "horizon": 10, "events": ("v",)}
        before = copy.deepcopy(values)
        plan = Plan.of(values)
        self.assertIsInstance(plan, Plan)
        self.assertEqual(plan, NEAR)
        self.assertEqual(list(values.items()), list(before.items()))
        values["events"] = ("w",)
        values["horizon"] = 3
        values.clear()
        self.assertEqual(plan, NEAR)
        for some in ({"horizon": 3, "events": ("v",)}, {"events": ("v",), "horizon": 3, "bounds": ()}):
            self.assertEqual(Plan.of(some), Plan(3, events=("v",)))
        self.assertEqual(Plan.of({"horizon": 3, "steps": (STEP,)}), Plan(3, steps=(STEP,)))


if __name__ == "__main__":
    unittest.main()
