"""What several test files use: plans, odd values, and a check for errors."""

import unittest

from heardlate.base.arcs import closed_arcs, numbers_paper
from heardlate.drive.drivers import EagerDriver, PolicyDriver, TableDriver, drive, policy_of
from heardlate.drive.moves import move_paper, stand, verdicts
from heardlate.drive.opponents import Opponent, duel
from heardlate.facts.decided import paper_of
from heardlate.facts.facts import derived, given_facts
from heardlate.facts.refutations import refutation
from heardlate.facts.tables import derived_table, open_rule
from heardlate.house.house import House
from heardlate.margins.hearing import hearing_paper
from heardlate.margins.idle import core
from heardlate.margins.margins import margin_paper
from heardlate.parts.parts import NestedDriver, spanned
from heardlate.plans.durations import all_durations
from heardlate.plans.plans import Plan
from heardlate.plans.timetables import earliest, play, timetable_paper
from heardlate.runs.policies import played, reached_pairs, trimmed
from heardlate.runs.runs import Run
from heardlate.tasks.tasks import Task
from heardlate.text.formats import format_plan, format_run
from heardlate.text.shell import Shell

NEAR = Plan(10, events=("v",), steps=(("c", "start", 1, 5, 0),), bounds=(("v", "c", 2), ("c", "v", 1)))
EXACT = Plan(10, events=("v",), steps=(("c", "start", 1, 5, 0),), bounds=(("v", "c", 1), ("c", "v", -1)))

# The policy of the document's example, which is safe for NEAR.
EARLY = {(1, (("c", 1),)): ("v",), (2, (("c", 2),)): ("v",), (3, ()): ("v",), (3, (("c", 3),)): ("v",)}

# NEAR with another name for its event, so that its papers are none of other plans here.
OTHER = NEAR.renamed(v="x")

# Plans in which the rule early makes something of late facts, or just does not, which is rare: driven ones and, as
# the last three, refuted ones.
RARE = (
    Plan(7, events=("v", "w"), steps=(("a", "v", 2, 5, 0), ("c", "w", 2, 6, 0)), bounds=(("a", "c", 1),)),
    Plan(
        6, events=("v",), steps=(("a", "start", 3, 8, 1), ("c", "v", 1, 1, 3), ("q", "v", 2, 3, 0)),
        bounds=(("q", "a", 1),),
    ),
    Plan(8, events=("v",), steps=(("a", "v", 3, 7, 5), ("c", "start", 1, 5, 1)), bounds=(("c", "v", 1),)),
    Plan(5, events=("v",), steps=(("a", "start", 1, 2, 0), ("c", "v", 3, 3, 3)), bounds=(("a", "v", 0),)),
    Plan(9, events=("v",), steps=(("a", "start", 2, 6, 3), ("c", "v", 2, 7, 3)), bounds=(("a", "v", 3),)),
    Plan(
        6, events=("w", "z"), steps=(("c", "start", 5, 6, 3), ("q", "z", 3, 6, 2), ("x", "w", 1, 5, 1)),
        bounds=(("c", "x", 3), ("q", "x", 2), ("start", "z", 4), ("x", "w", 1)),
    ),
    Plan(3, events=("m", "w"), steps=(("a", "start", 3, 4, 0), ("q", "m", 1, 5, 1)), bounds=(("a", "q", 2),)),
    Plan(6, events=("w",), steps=(("c", "start", 4, 6, 0), ("q", "start", 4, 5, 3), ("x", "w", 1, 4, 2)),
         bounds=(("c", "x", 0),)),
    Plan(2, steps=(("c", "start", 3, 4, 2), ("x", "start", 1, 6, 2)), bounds=(("c", "x", 2),)),
    Plan(2, events=("v",), steps=(("a", "v", 2, 5, 0), ("q", "v", 4, 5, 2), ("x", "start", 3, 6, 0)),
         bounds=(("a", "x", 1),)),
    Plan(3, events=("z",), steps=(("a", "start", 2, 4, 1), ("q", "z", 1, 5, 1)), bounds=(("a", "q", 1),)),
)

# A driver of a nested plan that has nothing in common with the other plans here, and a house with one.
TWIN = Plan(3, events=("zy",), bounds=(("start", "zy", 5), ("zy", "start", -1)))
NESTED = NestedDriver(EagerDriver(OTHER), "c", EagerDriver(spanned(OTHER, "c", TWIN, "zy")), "zy")
HOUSE = House()
HOUSE.apply(("plan", "zz", OTHER), ("run", "zx", "zz"))

FORTY = 10 ** 40 - 1
TEN_EVENTS = tuple("abcdefghij")
FIVE_STEPS = tuple((end, "start", 1, 2, 0) for end in "pqrst")


def deep(make, inner):
    """A value that is nested ten deep."""
    for _ in range(10):
        inner = make(inner)
    return inner


# Values of all kinds that may be passed for a parameter; a test leaves out those that are valid for it.
ODD = (
    None, True, False, 0, 1, -1, 2, 5, 100, FORTY, -FORTY,
    "", " ", "A", "a1", "a b", "a_b", "abcdefghi", "start", "zz", "0", "\n", "a\n", "~", "{", "`",
    (), ("zz",), (None,), (0,), ((),), ("zz", "zz", 1), (("zz", "zz"),), ((("zz", "zz", 1),),),
    (("zz", "zz", 1, 1),), (["zz", "zz", 1],), (("zz", "zz", None),), (("zz", "zz", True),),
    [], ["zz"], [("zz", "zz", 1)], [[]], {}, {"zz": 0}, {"horizon": -1}, {0: 0}, {(): 0}, {None: None},
    deep(lambda inner: (inner,), "zz"), deep(lambda inner: [inner], 0), deep(lambda inner: {"zz": inner}, ()),
    NEAR, (NEAR,), closed_arcs((("a", "b", 1),)), numbers_paper((("a", "a", -1),)), numbers_paper(()),
    all_durations(NEAR), earliest(NEAR, {"c": 3}), play(NEAR, {"c": 3}), timetable_paper(NEAR, {"c": 3}),
    Run(NEAR), Run(NEAR).wait().hear("c"), (Run(NEAR),), Run(NEAR).expected(),
    played(NEAR, EARLY, {"c": 5}), reached_pairs(NEAR, EARLY), trimmed(NEAR, EARLY), given_facts(NEAR),
    derived(NEAR, "late", (("plain", "v", "c"), 2)), derived_table(NEAR), open_rule(NEAR, *derived_table(NEAR)),
    refutation(EXACT), refutation(EXACT)[1:], paper_of(OTHER), EagerDriver(OTHER),
    TableDriver(OTHER, paper_of(OTHER)), PolicyDriver(OTHER, {}), drive(EagerDriver(OTHER), {"c": 3}),
    policy_of(EagerDriver(OTHER)), Opponent(EXACT), Opponent(EXACT)(), duel(PolicyDriver(EXACT, {}), Opponent(EXACT)),
    Opponent(EXACT).verdict, verdicts(Run(OTHER)), move_paper(Run(OTHER), "x"), [stand(Run(OTHER))],
    margin_paper(OTHER, ("delay", "c")), hearing_paper(OTHER), (core(EXACT),), NESTED, Task.read("zz 1..2? 0; zy 0..3"), HOUSE,
    HOUSE.log(), HOUSE.plans, HOUSE.runs, Shell(), format_plan(OTHER) + "\n", format_run(Run(OTHER)) + " ",
)


class Case(unittest.TestCase):
    def refuses(self, error, call, *values, **more):
        """Checks that a call raises just this error, and returns the one that it raised."""
        try:
            call(*values, **more)
        except Exception as caught:
            self.assertIs(type(caught), error, (values, more, caught))
            return caught
        self.fail(f"no {error.__name__} for {values!r} {more!r}")

    def keeps(self, error, attribute, value, call, *values, **more):
        """Checks that a call raises just this error with just this value."""
        kept = getattr(self.refuses(error, call, *values, **more), attribute)
        self.assertIs(type(kept), type(value), (values, more))
        self.assertEqual(kept, value, (values, more))
