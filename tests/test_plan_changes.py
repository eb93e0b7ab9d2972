"""The methods of plans that return a plan, but "|" (stage 2)."""

import copy
import unittest

from heardlate.errors import InvalidOperation, InvalidPlan, TooMany, UnknownName
from heardlate.plans.plans import Plan
from tests.samples import EXACT, FIVE_STEPS, FORTY, NEAR, ODD, TEN_EVENTS, Case

WIDE = Plan(
    20,
    events=("a", "b", "v"),
    steps=(("c", "start", 1, 5, 0), ("d", "b", 2, 4, 3), ("e", "b", 7, 7, None)),
    bounds=(("a", "b", 1), ("b", "a", -2), ("c", "d", 9), ("d", "a", 4), ("start", "a", 6), ("v", "c", 3)),
)
FULL = Plan(9, events=TEN_EVENTS, steps=FIVE_STEPS, bounds=(("a", "p", 3),))


def parts(plan):
    return plan.horizon, plan.events, plan.steps, plan.bounds


class Changes(Case):
    def setUp(self):
        self.before = tuple(parts(plan) for plan in (NEAR, WIDE, FULL))

    def tearDown(self):
        self.assertEqual(tuple(parts(plan) for plan in (NEAR, WIDE, FULL)), self.before)

    def unknown(self, call, *values, known=()):
        """Checks that the first parameter must be one of the known names."""
        for value in ODD + ("x", "st"):
            if value not in known:
                self.keeps(UnknownName, "name", value, call, value, *values)


class Bounds(Changes):
    def test_with_bound(self):
        more = WIDE.with_bound("start", "d", -5)
        self.assertEqual(more, Plan(20, events=WIDE.events, steps=WIDE.steps, bounds=WIDE.bounds + (("start", "d", -5),)))
        other = WIDE.with_bound("b", "a", 7)
        self.assertEqual(other.bound("b", "a"), 7)
        self.assertEqual(other.bound("a", "b"), 1)
        self.assertEqual(len(other.bounds), 6)
        self.assertEqual(parts(other)[:3], parts(WIDE)[:3])
        self.assertEqual(WIDE.with_bound("a", "b", 1), WIDE)
        self.assertEqual(NEAR.with_bound("v", "c", 1).with_bound("c", "v", -1), EXACT)
        self.assertEqual(NEAR.with_bound("v", "c", 999).bound("v", "c"), 999)
        self.assertEqual(NEAR.with_bound("v", "start", -999).bound("v", "start"), -999)
        self.assertEqual(NEAR.with_bound("v", "start", -9).bounds, (("c", "v", 1), ("v", "c", 2), ("v", "start", -9)))

    def test_with_bound_errors(self):
        self.unknown(NEAR.with_bound, "v", 1, known=("start",))
        for value in ODD:
            if value != "start":
                self.keeps(UnknownName, "name", value, NEAR.with_bound, "v", value, 1)
            if type(value) is not int or abs(value) > 999:
                self.refuses(InvalidPlan, NEAR.with_bound, "v", "c", value)
        for most in (1000, -1000, FORTY, True, False, None, "1", (1,)):
            self.refuses(InvalidPlan, NEAR.with_bound, "v", "c", most)
            self.refuses(InvalidPlan, NEAR.with_bound, "v", "start", most)
        self.refuses(InvalidPlan, NEAR.with_bound, "v", "v", 1)
        self.refuses(InvalidPlan, NEAR.with_bound, "start", "start", 1)
        self.keeps(UnknownName, "name", "x", NEAR.with_bound, "x", "y", 1000)
        self.keeps(UnknownName, "name", "y", NEAR.with_bound, "v", "y", 1000)
        self.keeps(UnknownName, "name", "x", NEAR.with_bound, "x", "x", 1)

    def test_without_bound(self):
        less = WIDE.without_bound("b", "a")
        self.assertEqual(less.bounds, tuple(bound for bound in WIDE.bounds if bound != ("b", "a", -2)))
        self.assertEqual(parts(less)[:3], parts(WIDE)[:3])
        self.assertEqual(NEAR.without_bound("c", "v").bounds, (("v", "c", 2),))
        self.assertEqual(WIDE.without_bound("start", "a").with_bound("start", "a", 6), WIDE)
        zero = NEAR.with_bound("v", "c", 0)
        self.assertEqual(zero.without_bound("v", "c").bounds, (("c", "v", 1),))

    def test_without_bound_errors(self):
        self.unknown(NEAR.without_bound, "v", known=("start",))
        for value in ODD:
            if value != "start":
                self.keeps(UnknownName, "name", value, NEAR.without_bound, "v", value)
        self.keeps(UnknownName, "name", "x", NEAR.without_bound, "x", "y")
        for first, second in (("start", "v"), ("v", "start"), ("v", "v"), ("start", "start"), ("c", "start")):
            self.refuses(InvalidOperation, NEAR.without_bound, first, second)
        self.refuses(InvalidOperation, WIDE.without_bound, "d", "c")


class EventsAndSteps(Changes):
    def test_with_event(self):
        self.assertEqual(WIDE.with_event("aa").events, ("a", "aa", "b", "v"))
        self.assertEqual(parts(NEAR.with_event("w")), (10, ("v", "w"), NEAR.steps, NEAR.bounds))
        self.assertEqual(NEAR.with_event("self").points, ("start", "self", "v", "c"))
        self.assertEqual(Plan(0, events=TEN_EVENTS[1:]).with_event("a").events, TEN_EVENTS)

    def test_with_event_errors(self):
        for value in ODD:
            if value != "zz":
                self.refuses(InvalidPlan, NEAR.with_event, value)
                self.refuses(InvalidPlan, FULL.with_event, value)
        for value in ("v", "c", "start", "abcdefghi", ["w"], ("w",)):
            self.refuses(InvalidPlan, NEAR.with_event, value)
        self.keeps(TooMany, "limit", 10, FULL.with_event, "zz")
        self.refuses(InvalidPlan, FULL.with_event, "a")
        self.refuses(InvalidPlan, FULL.with_event, "p")
        self.refuses(InvalidPlan, FULL.with_event, "ABC")

    def test_with_step(self):
        more = NEAR.with_step("d", "v", 1, 99, None)
        self.assertEqual(parts(more), (10, ("v",), NEAR.steps + (("d", "v", 1, 99, None),), NEAR.bounds))
        other = WIDE.with_step("d", "a", 3, 3, 99)
        self.assertEqual(other.step("d"), ("d", "a", 3, 3, 99))
        self.assertEqual(other.ends, WIDE.ends)
        self.assertEqual(other.bounds, WIDE.bounds)
        self.assertEqual(other.step("c"), WIDE.step("c"))
        self.assertEqual(WIDE.with_step("d", "b", 2, 4, 3), WIDE)
        self.assertEqual(FULL.with_step("q", "j", 1, 1, None).step("q"), ("q", "j", 1, 1, None))
        self.assertEqual(NEAR.with_step("b", "start", 1, 1, 0).ends, ("b", "c"))

    def test_with_step_errors(self):
        for value in ODD:
            if value != "zz":
                self.refuses(InvalidPlan, NEAR.with_step, value, "v", 1, 5, 0)
                self.refuses(InvalidPlan, FULL.with_step, value, "a", 1, 5, 0)
            if value != "start":
                self.refuses(InvalidPlan, NEAR.with_step, "c", value, 1, 5, 0)
            if type(value) is not int or not 1 <= value <= 5:
                self.refuses(InvalidPlan, NEAR.with_step, "c", "v", value, 5, 0)
            if type(value) is not int or not 1 <= value <= 99:
                self.refuses(InvalidPlan, NEAR.with_step, "c", "v", 1, value, 0)
            if value is not None and (type(value) is not int or not 0 <= value <= 99):
                self.refuses(InvalidPlan, NEAR.with_step, "c", "v", 1, 5, value)
        for step in (
            ("v", "start", 1, 5, 0), ("start", "start", 1, 5, 0), ("c", "c", 1, 5, 0), ("d", "c", 1, 5, 0),
            ("d", "d", 1, 5, 0), ("d", "w", 1, 5, 0), ("d", "v", 0, 5, 0), ("d", "v", 5, 4, 0), ("d", "v", 1, 100, 0),
            ("d", "v", 1, 5, 100), ("d", "v", 1, 5, -1), ("d", "v", True, 5, 0), ("d", "v", 1, 5, False),
        ):
            self.refuses(InvalidPlan, NEAR.with_step, *step)
        self.keeps(TooMany, "limit", 5, FULL.with_step, "zz", "a", 1, 1, 0)
        self.refuses(InvalidPlan, FULL.with_step, "zz", "zz", 1, 1, 0)
        self.refuses(InvalidPlan, FULL.with_step, "zz", "a", 1, 1, 100)
        self.refuses(InvalidPlan, FULL.with_step, "a", "a", 1, 1, 0)

    def test_without(self):
        self.assertEqual(
            parts(WIDE.without("a")),
            (20, ("b", "v"), WIDE.steps, (("c", "d", 9), ("v", "c", 3))),
        )
        self.assertEqual(
            parts(WIDE.without("d")),
            (20, WIDE.events, (WIDE.steps[0], WIDE.steps[2]), WIDE.bounds[:2] + WIDE.bounds[4:]),
        )
        self.assertEqual(WIDE.without("e").bounds, WIDE.bounds)
        self.assertEqual(WIDE.without("e").ends, ("c", "d"))
        self.assertEqual(NEAR.without("c"), Plan(10, events=("v",)))
        self.assertEqual(NEAR.without("v"), Plan(10, steps=NEAR.steps))
        self.assertEqual(WIDE.without("d").without("e").without("b").events, ("a", "v"))

    def test_without_errors(self):
        self.unknown(NEAR.without)
        self.keeps(UnknownName, "name", "start", NEAR.without, "start")
        self.keeps(UnknownName, "name", "start", Plan(5).without, "start")
        self.refuses(InvalidOperation, WIDE.without, "b")
        self.refuses(InvalidOperation, WIDE.without("d").without, "b")
        self.refuses(InvalidOperation, NEAR.with_step("c", "v", 1, 5, 0).without, "v")

    def test_with_span(self):
        self.assertEqual(NEAR.with_span("c", 2, 99).steps, (("c", "start", 2, 99, 0),))
        self.assertEqual(NEAR.with_span("c", 1, 1).steps, (("c", "start", 1, 1, 0),))
        self.assertEqual(parts(WIDE.with_span("e", 99, 99)), (
            20, WIDE.events, WIDE.steps[:2] + (("e", "b", 99, 99, None),), WIDE.bounds,
        ))
        self.assertEqual(WIDE.with_span("d", 2, 4), WIDE)

    def test_with_span_errors(self):
        self.unknown(NEAR.with_span, 1, 5)
        self.keeps(UnknownName, "name", "v", NEAR.with_span, "v", 1, 5)
        self.keeps(UnknownName, "name", "v", NEAR.with_span, "v", 5, 1)
        for least, most in (
            (0, 5), (5, 4), (1, 100), (100, 100), (True, 5), (1, True), (None, 5), (1, None), ("1", 5), (1, "5"),
            (-FORTY, 5), (1, FORTY), ((1,), 5), (1, [5]), (-5, -1), (False, 0),
        ):
            self.refuses(InvalidPlan, NEAR.with_span, "c", least, most)

    def test_with_delay(self):
        for delay in (0, 1, 98, 99, None):
            self.assertEqual(NEAR.with_delay("c", delay).steps, (("c", "start", 1, 5, delay),))
        self.assertEqual(parts(WIDE.with_delay("d", 0)), (
            20, WIDE.events, (WIDE.steps[0], ("d", "b", 2, 4, 0), WIDE.steps[2]), WIDE.bounds,
        ))

    def test_with_delay_errors(self):
        self.unknown(NEAR.with_delay, 1)
        for end in ("v", "start"):
            self.keeps(UnknownName, "name", end, NEAR.with_delay, end, 1)
            self.keeps(UnknownName, "name", end, NEAR.with_delay, end, 100)
        for delay in ODD + (100, -1, "never", "None"):
            if delay is not None and (type(delay) is not int or not 0 <= delay <= 99):
                self.refuses(InvalidPlan, NEAR.with_delay, "c", delay)

    def test_with_horizon(self):
        for horizon in (0, 10, 99):
            self.assertEqual(parts(NEAR.with_horizon(horizon)), (horizon, NEAR.events, NEAR.steps, NEAR.bounds))
        for horizon in ODD + (-1, 100, "10"):
            if type(horizon) is not int or not 0 <= horizon <= 99:
                self.refuses(InvalidPlan, NEAR.with_horizon, horizon)


class Hearing(Changes):
    def delays(self, plan):
        return tuple(step[4] for step in plan.steps)

    def test_deaf(self):
        self.assertEqual(NEAR.deaf().steps, (("c", "start", 1, 5, None),))
        self.assertEqual(self.delays(WIDE.deaf()), (None, None, None))
        self.assertEqual(self.delays(WIDE.deaf("d")), (0, None, None))
        self.assertEqual(self.delays(WIDE.deaf("d", "c")), (None, None, None))
        self.assertEqual(self.delays(WIDE.deaf("c", "c")), (None, 3, None))
        self.assertEqual(self.delays(WIDE.deaf("e")), (0, 3, None))

    def test_prompt(self):
        self.assertEqual(self.delays(WIDE.prompt()), (0, 0, 0))
        self.assertEqual(self.delays(WIDE.prompt("d")), (0, 0, None))
        self.assertEqual(self.delays(WIDE.prompt("e")), (0, 3, 0))
        self.assertEqual(self.delays(WIDE.prompt("e", "d", "e")), (0, 0, 0))
        self.assertEqual(NEAR.deaf().prompt(), NEAR)

    def test_nothing_else_changes(self):
        for plan in (WIDE.deaf(), WIDE.prompt(), WIDE.deaf("c"), WIDE.prompt("e")):
            self.assertEqual((plan.horizon, plan.events, plan.bounds), (20, WIDE.events, WIDE.bounds))
            self.assertEqual([step[:4] for step in plan.steps], [step[:4] for step in WIDE.steps])
        self.assertEqual(Plan(5).deaf(), Plan(5))
        self.assertEqual(Plan(5).prompt(), Plan(5))

    def test_errors(self):
        for call in (NEAR.deaf, NEAR.prompt):
            self.unknown(call)
            self.unknown(call, "c")
            for value in ODD + ("v", "start"):
                self.keeps(UnknownName, "name", value, call, "c", value)
                self.keeps(UnknownName, "name", value, call, value, "x")
            self.keeps(UnknownName, "name", "y", call, "c", "y", "x")


class Renamed(Changes):
    def test_events_and_ends(self):
        expected = Plan(
            20,
            events=("a", "n", "v"),
            steps=(("z", "start", 1, 5, 0), ("d", "n", 2, 4, 3), ("e", "n", 7, 7, None)),
            bounds=(("a", "n", 1), ("n", "a", -2), ("z", "d", 9), ("d", "a", 4), ("start", "a", 6), ("v", "z", 3)),
        )
        self.assertEqual(WIDE.renamed(b="n", c="z"), expected)
        self.assertEqual(WIDE.renamed_by({"c": "z", "b": "n"}), expected)
        self.assertEqual(NEAR.renamed(v="w").points, ("start", "w", "c"))

    def test_nothing(self):
        self.assertEqual(WIDE.renamed(), WIDE)
        self.assertEqual(WIDE.renamed_by({}), WIDE)
        self.assertEqual(WIDE.renamed(a="a", c="c"), WIDE)

    def test_all_at_once(self):
        expected = Plan(10, events=("c",), steps=(("v", "start", 1, 5, 0),), bounds=(("c", "v", 2), ("v", "c", 1)))
        self.assertEqual(NEAR.renamed(v="c", c="v"), expected)
        self.assertEqual(NEAR.renamed_by({"c": "v", "v": "c"}), expected)
        turned = WIDE.renamed(a="b", b="v", v="a")
        self.assertEqual(turned.events, ("a", "b", "v"))
        self.assertEqual(turned.step("d"), ("d", "v", 2, 4, 3))
        self.assertEqual(turned.bound("b", "v"), 1)
        self.assertEqual(turned.bound("a", "c"), 3)
        self.assertEqual(WIDE.renamed(a="w", b="a").step("d"), ("d", "a", 2, 4, 3))
        self.assertEqual(turned.renamed(b="a", v="b", a="v"), WIDE)

    def test_a_point_called_self(self):
        plan = NEAR.renamed(v="self")
        self.assertEqual(plan.events, ("self",))
        self.assertEqual(plan.bound("self", "c"), 2)
        self.assertEqual(plan.renamed_by({"self": "v"}), NEAR)
        self.assertEqual(plan.renamed_by({"self": "c", "c": "self"}).ends, ("self",))

    def test_points_called_like_parameters(self):
        plan = Plan(5, events=("names", "more", "other"))
        self.assertEqual(plan.renamed(names="a", more="b", other="c").events, ("a", "b", "c"))

    def test_no_dict_from_strings(self):
        for value in ODD + ((("v", "w"),), [("v", "w")], {("v",): "w"}, {"v": "w", 1: "x"}, {None: "w"}, {True: "w"}):
            if value != {} and not (type(value) is dict and all(type(key) is str for key in value)):
                self.refuses(InvalidOperation, NEAR.renamed_by, value)
        self.refuses(InvalidOperation, NEAR.renamed_by, {"x": "w", 1: "x"})
        self.refuses(InvalidOperation, NEAR.renamed_by, {0: 1, "v": None})

    def test_the_smallest_unknown_key(self):
        self.keeps(UnknownName, "name", "start", NEAR.renamed, start="x")
        self.keeps(UnknownName, "name", "b", NEAR.renamed, z="q", b="p", c="d")
        self.keeps(UnknownName, "name", "b", NEAR.renamed, b="p", z="q", c="d")
        self.keeps(UnknownName, "name", "", NEAR.renamed_by, {"w": "x", "": "y"})
        self.keeps(UnknownName, "name", "V", NEAR.renamed_by, {"w": "x", "V": "y", "v": "w"})
        self.keeps(UnknownName, "name", "a b", NEAR.renamed_by, {"w": 1, "a b": 1})
        self.keeps(UnknownName, "name", "names", NEAR.renamed, names="a")
        self.keeps(UnknownName, "name", "start", NEAR.renamed_by, {"start": "start"})
        self.keeps(UnknownName, "name", "x", NEAR.renamed, x="c", v="c")
        self.keeps(UnknownName, "name", "x", NEAR.renamed, x="y", v=5)

    def test_the_result_is_a_plan(self):
        for value in ODD:
            if value != "zz":
                self.refuses(InvalidPlan, NEAR.renamed, v=value)
                self.refuses(InvalidPlan, NEAR.renamed_by, {"c": value})
        self.refuses(InvalidPlan, NEAR.renamed, v="c")
        self.refuses(InvalidPlan, NEAR.renamed, c="v")
        self.refuses(InvalidPlan, NEAR.renamed, v="start")
        self.refuses(InvalidPlan, NEAR.renamed, c="start")
        self.refuses(InvalidPlan, NEAR.renamed, v="w", c="w")
        self.refuses(InvalidPlan, WIDE.renamed, a="b")
        self.refuses(InvalidPlan, WIDE.renamed, c="d")
        self.refuses(InvalidPlan, NEAR.renamed, v="abcdefghi")

    def test_the_dict_stays_as_it_is(self):
        names = {"v": "w", "c": "d"}
        before = copy.deepcopy(names)
        plan = NEAR.renamed_by(names)
        self.assertEqual(list(names.items()), list(before.items()))
        names["v"] = "x"
        self.assertEqual(plan.events, ("w",))
        self.assertEqual(NEAR.renamed_by(before), plan)
        for wrong in ({"v": "c"}, {"x": "y", "v": "w"}, {"v": "w", 1: "x"}):
            before = list(wrong.items())
            self.assertRaises(Exception, NEAR.renamed_by, wrong)
            self.assertEqual(list(wrong.items()), before)


if __name__ == "__main__":
    unittest.main()
