"""What several test files use: plans, odd values, and a check for errors."""

import unittest

from heardlate.base.arcs import closed_arcs, numbers_paper
from heardlate.facts.facts import derived, given_facts
from heardlate.facts.refutations import refutation
from heardlate.facts.tables import derived_table, open_rule
from heardlate.plans.durations import all_durations
from heardlate.plans.plans import Plan
from heardlate.plans.timetables import earliest, play, timetable_paper
from heardlate.runs.policies import played, reached_pairs, trimmed
from heardlate.runs.runs import Run

NEAR = Plan(10, events=("v",), steps=(("c", "start", 1, 5, 0),), bounds=(("v", "c", 2), ("c", "v", 1)))
EXACT = Plan(10, events=("v",), steps=(("c", "start", 1, 5, 0),), bounds=(("v", "c", 1), ("c", "v", -1)))

# The policy of the document's example, which is safe for NEAR.
EARLY = {(1, (("c", 1),)): ("v",), (2, (("c", 2),)): ("v",), (3, ()): ("v",), (3, (("c", 3),)): ("v",)}

FORTY = 10 ** 40 - 1
TEN_EVENTS = tuple("abcdefghij")
FIVE_STEPS = tuple((end, "start", 1, 2, 0) for end in "pqrst")


def deep(make, inner):
    """A value that is nested ten deep."""
    for _ in range(10):
        inner = make(inner)
    return inner


# Values of all kinds that may be passed for a parameter; a test leaves out those that are valid for it.
ODD = (
    None, True, False, 0, 1, -1, 2, 5, 100, FORTY, -FORTY,
    "", " ", "A", "a1", "a b", "a_b", "abcdefghi", "start", "zz", "0", "\n", "a\n", "~", "{", "`",
    (), ("zz",), (None,), (0,), ((),), ("zz", "zz", 1), (("zz", "zz"),), ((("zz", "zz", 1),),),
    (("zz", "zz", 1, 1),), (["zz", "zz", 1],), (("zz", "zz", None),), (("zz", "zz", True),),
    [], ["zz"], [("zz", "zz", 1)], [[]], {}, {"zz": 0}, {"horizon": -1}, {0: 0}, {(): 0}, {None: None},
    deep(lambda inner: (inner,), "zz"), deep(lambda inner: [inner], 0), deep(lambda inner: {"zz": inner}, ()),
    NEAR, (NEAR,), closed_arcs((("a", "b", 1),)), numbers_paper((("a", "a", -1),)), numbers_paper(()),
    all_durations(NEAR), earliest(NEAR, {"c": 3}), play(NEAR, {"c": 3}), timetable_paper(NEAR, {"c": 3}),
    Run(NEAR), Run(NEAR).wait().hear("c"), (Run(NEAR),), Run(NEAR).expected(),
    played(NEAR, EARLY, {"c": 5}), reached_pairs(NEAR, EARLY), trimmed(NEAR, EARLY), given_facts(NEAR),
    derived(NEAR, "late", (("plain", "v", "c"), 2)), derived_table(NEAR), open_rule(NEAR, *derived_table(NEAR)),
    refutation(EXACT), refutation(EXACT)[1:],
)


class Case(unittest.TestCase):
    def refuses(self, error, call, *values, **more):
        """Checks that a call raises just this error, and returns the one that it raised."""
        try:
            call(*values, **more)
        except Exception as caught:
            self.assertIs(type(caught), error, (values, more, caught))
            return caught
        self.fail(f"no {error.__name__} for {values!r} {more!r}")

    def keeps(self, error, attribute, value, call, *values, **more):
        """Checks that a call raises just this error with just this value."""
        kept = getattr(self.refuses(error, call, *values, **more), attribute)
        self.assertIs(type(kept), type(value), (values, more))
        self.assertEqual(kept, value, (values, more))
