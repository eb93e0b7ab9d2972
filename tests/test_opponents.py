"""Opponents: what they let be heard, their verdicts, and duels ([12.1], [12.2], stage 12)."""

import random
import unittest

from heardlate.drive import opponents as module
from heardlate.drive.drivers import EagerDriver, PolicyDriver, TableDriver
from heardlate.drive.opponents import Opponent, duel
from heardlate.errors import Driven, InvalidOperation, InvalidPlan, UnknownName
from heardlate.facts.decided import derived_paper, is_driven
from heardlate.facts.tables import is_table_paper
from heardlate.plans.durations import is_durations
from heardlate.plans.plans import Plan
from heardlate.runs.runs import Run
from tests import policy_answers, time_answers
from tests.game_answers import Game, is_driven_from, moment
from tests.samples import EXACT, FIVE_STEPS, NEAR, ODD, TEN_EVENTS, Case

# The event v must be done before both ends have happened, but at most one tick before each of them.
LATER = Plan(
    9, events=("v", "w"), steps=(("c", "start", 1, 3, 0), ("d", "start", 1, 3, 0)),
    bounds=(("v", "c", 1), ("v", "d", 1), ("c", "v", 0), ("d", "v", 0), ("c", "w", 4)),
)
UNTIL = Plan(4, events=("v", "w"), bounds=(("v", "w", -2), ("w", "v", 1)))


def refuted_plans(many, seed, **more):
    return [plan for plan in time_answers.some_plans(many, seed, **more) if not is_driven(plan)]


class Opposed(Case):
    def check_verdict(self, opponent):
        """Checks the verdict of an opponent against its run."""
        run, plan = opponent.run, opponent.plan
        verdict = opponent.verdict
        if run.left and run.tick <= plan.horizon:
            self.assertIsNone(verdict)
        elif run.left:
            self.assertEqual(verdict, ("undone", run.left[0]))
        else:
            word, bound, durations = verdict
            self.assertEqual(word, "bound")
            self.assertIn(bound, plan.bounds)
            self.assertEqual(list(durations), list(plan.ends))
            self.assertIs(is_durations(run.rest, durations), True)
            times = run.finished(durations)
            self.assertGreater(times[bound[1]], times[bound[0]] + bound[2])
        return verdict


class Begun(Opposed):
    def test_modules(self):
        self.assertEqual((Opponent.__module__, duel.__module__), (module.__name__,) * 2)
        for name in ("__init__", "__call__", "did", "plan", "tick", "run", "verdict", "twin", "__eq__"):
            self.assertIn(name, vars(Opponent))

    def test_the_beginning(self):
        opponent = Opponent(EXACT)
        self.assertEqual((opponent.plan, opponent.tick, opponent.run), (EXACT, 0, Run(EXACT)))
        self.assertIsNone(opponent.verdict)
        for name in ("plan", "tick", "run", "verdict"):
            self.assertRaises(AttributeError, setattr, opponent, name, 1)
        self.assertRaises(TypeError, iter, opponent)
        self.assertRaises(TypeError, list, opponent)

    def test_driven_plans(self):
        for plan in (NEAR, Plan(0), EXACT.with_bound("c", "v", 0)):
            paper = self.refuses(Driven, Opponent, plan).paper
            self.assertIs(is_table_paper(plan, paper), True)

    def test_the_plan_is_checked(self):
        for value in ODD:
            if not isinstance(value, Plan):
                self.refuses(InvalidPlan, Opponent, value)

    def test_just_the_refuted_plans(self):
        for plan in time_answers.some_plans(200, 141, steps=3):
            if Game(plan).is_driven():
                self.assertIs(is_table_paper(plan, self.refuses(Driven, Opponent, plan).paper), True)
            else:
                self.assertEqual(Opponent(plan).run, Run(plan))


class Heard(Opposed):
    def test_exact(self):
        # If the end did not come at tick 4, it would have to come at tick 5, and the event could be done at tick 4.
        opponent = Opponent(EXACT)
        for tick in range(10):
            ends = opponent()
            self.assertEqual(ends, ("c",) if tick == 4 else ())
            opponent.did()
        self.assertEqual((opponent.tick, opponent.verdict), (10, None))
        opponent.did()
        self.assertEqual((opponent.tick, opponent.verdict), (11, ("undone", "v")))

    def test_it_is_asked_again(self):
        for plan in refuted_plans(60, 142, steps=3):
            opponent = Opponent(plan)
            while opponent.verdict is None:
                run = opponent.run
                ends = opponent()
                self.assertEqual((opponent(), opponent(), opponent.run), (ends, ends, run))
                untold = opponent.twin()
                opponent.did()
                self.assertEqual(opponent.run, run.hear(*ends).wait())
                untold.did()
                self.assertEqual(opponent, untold)

    def test_it_need_not_be_asked(self):
        for plan in refuted_plans(40, 143, steps=3):
            one, other = Opponent(plan), Opponent(plan)
            while one.verdict is None:
                one.did()
                other()
                other.did()
                self.assertEqual((one, one.verdict), (other, other.verdict))

    def test_the_first_set_behind_which_the_rest_is_refuted(self):
        chance = random.Random(144)
        heard = asked = 0
        for plan in refuted_plans(500, 145, steps=3):
            game = Game(plan)
            for _ in range(3):
                opponent = Opponent(plan)
                while opponent.verdict is None:
                    run = opponent.run
                    sets = [
                        ends for ends in game.sets(*moment(run)) if not is_driven_from(game, run.hear(*ends))
                    ]
                    self.assertEqual(opponent(), sets[0])
                    heard += sets[0] != ()
                    asked += 1
                    share = chance.choice((0, 0.3, 0.8))
                    done = [event for event in run.left if chance.random() < share]
                    chance.shuffle(done)
                    opponent.did(*done)
                    self.assertEqual(opponent.run, run.hear(*sets[0]).do(*done).wait())
                    self.assertIs(is_driven_from(game, opponent.run), False)
                    self.assertIs(is_driven(opponent.run.rest), False)
                self.check_verdict(opponent)
        self.assertGreater(heard, 20)

    def test_news_in_the_last_tick(self):
        plan = Plan(3, events=("v",), steps=(("c", "start", 3, 3, 0),), bounds=(("c", "v", -1), ("v", "start", -3)))
        opponent = Opponent(plan)
        for _ in range(3):
            self.assertEqual(opponent(), ())
            opponent.did()
        self.assertEqual(opponent(), ("c",))
        last = opponent.twin()
        last.did("v")
        self.assertEqual((last.verdict[:2], last()), (("bound", ("c", "v", -1)), ()))
        opponent.did()
        self.assertEqual((opponent.verdict, opponent(), opponent.tick), (("undone", "v"), (), 4))
        # News behind the horizon do not count.
        plan = plan.with_delay("c", 5)
        opponent = Opponent(plan)
        for _ in range(4):
            self.assertEqual(opponent(), ())
            opponent.did()
        self.assertEqual(opponent.verdict, ("undone", "v"))

    def test_one_end_and_several_ends(self):
        opponent = Opponent(LATER.without("w"))
        heard = []
        for _ in range(10):
            heard.append(opponent())
            opponent.did()
        self.assertEqual(heard[:4], [(), ("c",), (), ("d",)])
        self.assertEqual(self.check_verdict(opponent), ("undone", "v"))
        # Both news must come in the same tick, or one of them and perhaps the other one, too.
        opponent = Opponent(LATER.with_span("c", 3, 3).with_span("d", 3, 3).with_bound("v", "start", -5))
        heard = []
        for _ in range(4):
            heard.append(opponent())
            opponent.did()
        self.assertEqual(heard, [(), (), (), ("c", "d")])

    def test_with_a_verdict(self):
        for plan in refuted_plans(40, 146, steps=3):
            opponent = Opponent(plan)
            while opponent.verdict is None:
                opponent.did(*opponent.run.left)
            before = opponent.twin()
            self.assertEqual((opponent(), opponent()), ((), ()))
            self.refuses(InvalidOperation, opponent.did)
            for event in plan.events:
                self.refuses(InvalidOperation, opponent.did, event)
            self.keeps(UnknownName, "name", "x0", opponent.did, "x0")
            self.assertEqual((opponent, opponent.verdict), (before, before.verdict))


    def test_news_that_would_have_to_come_with_a_verdict(self):
        plan = Plan(9, events=("v",), steps=(("c", "start", 3, 3, 0),), bounds=(("v", "start", -5), ("start", "v", 3)))
        opponent = Opponent(plan)
        for _ in range(2):
            opponent.did()
        opponent.did("v")
        self.assertEqual((opponent.tick, opponent.run.expected()), (3, {"c": (3, 3)}))
        self.assertEqual((opponent.verdict, opponent()), (("bound", ("v", "start", -5), {"c": 3}), ()))


class Verdicts(Opposed):
    def test_undone(self):
        opponent = Opponent(UNTIL)
        for _ in range(5):
            self.assertIsNone(opponent.verdict)
            opponent.did()
        self.assertEqual(opponent.verdict, ("undone", "v"))
        opponent = Opponent(UNTIL)
        opponent.did("v")
        for _ in range(4):
            self.assertIsNone(opponent.verdict)
            opponent.did()
        self.assertEqual(opponent.verdict, ("undone", "w"))

    def test_bound(self):
        opponent = Opponent(UNTIL)
        opponent.did("w", "v")
        self.assertEqual(opponent.verdict, ("bound", ("v", "w", -2), {}))
        self.assertEqual(opponent.tick, 1)
        opponent = Opponent(EXACT)
        opponent.did("v")
        self.assertEqual(opponent.verdict[:2], ("bound", ("v", "c", 1)))
        self.assertGreater(opponent.verdict[2]["c"], 1)

    def test_plans_without_events(self):
        for plan, bound in (
            (Plan(3, steps=(("c", "start", 1, 5, 0),), bounds=(("start", "c", 4),)), ("start", "c", 4)),
            (Plan(3, steps=(("c", "start", 1, 5, None),), bounds=(("c", "start", -2),)), ("c", "start", -2)),
            (Plan(0, steps=(("c", "start", 1, 5, 0), ("d", "start", 1, 5, 0)), bounds=(("c", "d", 3),)), ("c", "d", 3)),
        ):
            opponent = Opponent(plan)
            self.assertEqual(self.check_verdict(opponent)[:2], ("bound", bound))
            self.assertEqual((opponent(), opponent.tick), ((), 0))
            self.refuses(InvalidOperation, opponent.did)

    def test_plans_without_steps(self):
        plan = Plan(4, events=("v",), bounds=(("v", "start", -5),))
        for tick in range(5):
            opponent = Opponent(plan)
            for _ in range(tick):
                opponent.did()
            self.assertEqual(opponent(), ())
            opponent.did("v")
            self.assertEqual(opponent.verdict, ("bound", ("v", "start", -5), {}))

    def test_durations_that_are_still_possible(self):
        opponent = Opponent(EXACT)
        opponent()
        opponent.did()
        opponent.did("v")
        # Nothing was heard at tick 1, and with a duration of 2 all bounds would be kept.
        self.assertIn(self.check_verdict(opponent)[2]["c"], (3, 4, 5))

    def test_no_access_to_the_state(self):
        opponent = Opponent(EXACT)
        opponent.did("v")
        before = dict(opponent.verdict[2])
        opponent.verdict[2]["c"] = 1
        opponent.twin().verdict[2].clear()
        self.assertEqual(opponent.verdict[2], before)
        self.check_verdict(opponent)


class Told(Opposed):
    def test_events(self):
        opponent = Opponent(LATER)
        run = Run(LATER).hear(*opponent())
        opponent.did("w", "v")
        self.assertEqual(opponent.run, run.do("v", "w").wait())
        opponent = Opponent(LATER)
        opponent.did("w")
        self.assertEqual(opponent.run.left, ("v",))
        self.assertIsNone(opponent.did())

    def test_errors(self):
        opponent = Opponent(LATER)
        opponent.did("w")
        before = opponent.twin()
        for events in (("w",), ("v", "w"), ("v", "v"), ("w", "w")):
            self.refuses(InvalidOperation, opponent.did, *events)
            self.assertEqual(opponent, before)
        for value in ODD + ("c", "start", "x", ("v",)):
            self.keeps(UnknownName, "name", value, opponent.did, value)
            self.keeps(UnknownName, "name", value, opponent.did, "v", value)
            self.keeps(UnknownName, "name", value, opponent.did, "w", "w", value, "x")
        self.assertEqual((opponent, opponent(), opponent.tick), (before, before(), 1))

    def test_twins(self):
        opponent = Opponent(LATER)
        opponent.did()
        twin = opponent.twin()
        self.assertEqual((twin, twin(), twin.verdict), (opponent, opponent(), None))
        twin.did("v", "w")
        self.assertNotEqual(opponent, twin)
        self.assertEqual((opponent.tick, opponent.verdict, twin.tick), (1, None, 2))
        self.assertIsNotNone(twin.verdict)
        opponent.did("v", "w")
        self.assertEqual((opponent, opponent.verdict), (twin, twin.verdict))

    def test_comparisons(self):
        one, other = Opponent(EXACT), Opponent(EXACT)
        self.assertIs(one == other, True)
        self.assertIs(one != other, False)
        other()
        self.assertEqual(one, other)
        other.did()
        self.assertIs(one == other, False)
        self.assertIs(one != other, True)
        self.assertNotEqual(one, Opponent(EXACT.with_horizon(9)))
        self.assertEqual(Opponent(LATER), Opponent(Plan(9, events=("w", "v"), steps=LATER.steps, bounds=LATER.bounds)))
        for value in ODD + (Run(EXACT), EXACT, Opponent, PolicyDriver(EXACT, {})):
            if not isinstance(value, Opponent):
                self.assertIs(one == value, False)
                self.assertIs(one != value, True)
                self.assertIs(value == one, False)


class Duels(Opposed):
    def test_example(self):
        early = PolicyDriver(EXACT, {(0, ()): ("v",)})
        self.assertEqual(duel(early, Opponent(EXACT))[1][:2], ("bound", ("v", "c", 1)))

    def test_every_driver_is_beaten(self):
        words = []
        for plan, policy in policy_answers.some_policies(250, 147, steps=3):
            if not is_driven(plan):
                driver, opponent = PolicyDriver(plan, policy), Opponent(plan)
                run, verdict = duel(driver, opponent)
                player, other = driver.twin(), opponent.twin()
                while other.verdict is None:
                    other.did(*player(other()))
                self.assertEqual((run, verdict), (other.run, other.verdict))
                self.assertEqual(self.check_verdict(other), verdict)
                self.assertEqual((driver.tick, opponent.tick), (0, 0))
                self.assertEqual((driver, opponent), (PolicyDriver(plan, policy), Opponent(plan)))
                words.append(verdict[0])
        self.assertGreater(min(words.count("undone"), words.count("bound")), 20)

    def test_from_the_middle(self):
        driver, opponent = PolicyDriver(EXACT, {(4, (("c", 4),)): ("v",)}), Opponent(EXACT)
        for _ in range(3):
            opponent.did(*driver(opponent()))
        run, verdict = duel(driver, opponent)
        self.assertEqual((run.tick, run.times), (5, {"c": 4, "start": 0, "v": 4}))
        self.assertEqual(verdict, ("bound", ("c", "v", -1), {"c": 4}))
        self.assertEqual((driver.tick, opponent.tick), (3, 3))

    def test_with_a_verdict_at_the_begin(self):
        plan = Plan(3, steps=(("c", "start", 1, 5, 0),), bounds=(("start", "c", 4),))
        run, verdict = duel(PolicyDriver(plan, {}), Opponent(plan))
        self.assertEqual((run, verdict), (Run(plan), ("bound", ("start", "c", 4), {"c": 5})))

    def test_runs_that_differ(self):
        driver, opponent = PolicyDriver(EXACT, {}), Opponent(EXACT)
        driver()
        self.refuses(InvalidOperation, duel, driver, opponent)
        opponent.did()
        self.refuses(InvalidOperation, duel, PolicyDriver(EXACT, {}), opponent)
        self.assertEqual(duel(driver, opponent)[1], ("undone", "v"))
        self.refuses(InvalidOperation, duel, EagerDriver(NEAR), Opponent(EXACT))
        self.refuses(InvalidOperation, duel, TableDriver(NEAR, derived_paper(NEAR)), Opponent(EXACT))
        opponent = Opponent(EXACT)
        opponent.did("v")
        driver = PolicyDriver(EXACT, {})
        driver()
        self.refuses(InvalidOperation, duel, driver, opponent)

    def test_errors(self):
        driver, opponent = PolicyDriver(EXACT, {}), Opponent(EXACT)
        for value in ODD + (EXACT, Run(EXACT)):
            if not isinstance(value, PolicyDriver | EagerDriver | TableDriver):
                self.refuses(InvalidOperation, duel, value, opponent)
            if not isinstance(value, Opponent):
                self.refuses(InvalidOperation, duel, driver, value)
        self.refuses(InvalidOperation, duel, opponent, driver)

    def test_plans_at_the_limits(self):
        plan = Plan(99, events=TEN_EVENTS, steps=FIVE_STEPS, bounds=(("p", "a", -1), ("a", "p", 1), ("q", "b", 0)))
        plan = plan.with_bound("c", "start", -40)
        driver = PolicyDriver(plan, {(tick, ()): TEN_EVENTS[tick:tick + 1] for tick in range(10)})
        run, verdict = duel(driver, Opponent(plan))
        self.assertEqual((run.tick, verdict), (100, ("undone", run.left[0])))
        run, verdict = duel(PolicyDriver(plan, {(0, ()): TEN_EVENTS}), Opponent(plan))
        self.assertEqual((run.tick, verdict[0]), (1, "bound"))


if __name__ == "__main__":
    unittest.main()
