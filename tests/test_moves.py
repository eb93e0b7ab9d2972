"""Moves: rests, verdicts with their papers, sound runs, stands and choices ([13.1] to [13.3], stage 13)."""

import random
import unittest

from heardlate.base.arcs import distances, is_arcs
from heardlate.drive import moves as module
from heardlate.drive.drivers import EagerDriver, PolicyDriver, drive
from heardlate.drive.moves import (
    choices, done_rest, is_move_paper, is_sound, later_rest, move_paper, stand, verdict_on, verdicts,
)
from heardlate.errors import InvalidOperation, InvalidRun, Refuted, TooMany, UnknownName
from heardlate.drive.opponents import Opponent, duel
from heardlate.facts.decided import is_driven, paper_of
from heardlate.facts.refutations import is_refutation
from heardlate.facts.tables import derived_table, is_table_paper
from heardlate.plans.durations import extremes
from heardlate.plans.plans import Plan
from heardlate.runs.runs import Run
from tests import drive_answers, time_answers
from tests.game_answers import Game, is_driven_from, moment, subsets
from tests.samples import EXACT, FIVE_STEPS, NEAR, ODD, RARE, TEN_EVENTS, Case

TWO = Plan(
    9,
    events=("v", "w"),
    steps=(("c", "start", 2, 4, 1), ("d", "v", 1, 2, 0)),
    bounds=(("v", "start", -2), ("v", "w", 0), ("w", "v", 3)),
)
SIX = Plan(4, events=tuple("abcdef"), bounds=(("a", "b", 0), ("c", "start", -1)))
SEVEN = SIX.with_event("g")


def behind(run):
    """The run behind the news of its tick."""
    return run if run.is_behind else run.hear()


def some_runs(many, seed, **more):
    """Runs of small plans, each with the game of its plan and whether it is sound."""
    yield from runs_of(time_answers.some_plans(many, seed, **more), seed)


def runs_of(plans, seed):
    chance = random.Random(seed)
    for plan in plans:
        game = Game(plan)
        run = Run(plan)
        right = is_driven_from(game, run)
        while run.tick < plan.horizon + 4:
            yield game, run, right
            if run.is_behind:
                safe = [events for events in subsets(run.left) if game.doing(*moment(run), events)]
                if run.left and run.tick <= plan.horizon:
                    wild = chance.random() < 0.25
                    run = run.do(*chance.choice(list(subsets(run.left)) if wild or not safe else safe))
                    right = right and is_driven_from(game, run)
                    yield game, run, right
                run = run.wait()
            else:
                run = run.hear(*chance.choice(list(game.sets(*moment(run)))))
            right = right and is_driven_from(game, run)


def must_come(run):
    """Whether the run is before the news of a tick in which some news must come."""
    return not run.is_behind and any(last == run.tick for _, last in run.expected().values())


class Rests(Case):
    def test_modules(self):
        for name in (
            "done_rest", "later_rest", "verdict_on", "verdicts", "move_paper", "is_move_paper", "is_sound", "stand",
            "choices",
        ):
            self.assertEqual(getattr(module, name).__module__, "heardlate.drive.moves")

    def test_done_rest(self):
        run = Run(TWO).wait(ticks=3)
        self.assertEqual(done_rest(run, "v"), run.do("v").rest)
        self.assertEqual(done_rest(run, "w", "v"), run.do("v", "w").rest)
        self.assertEqual(done_rest(run), run.hear().rest)
        rest = done_rest(run.hear("c"), "v")
        self.assertEqual((rest.bound("v", "start"), rest.bound("start", "v"), rest.bound("w", "start")), (-3, 3, -3))
        self.assertEqual(rest.steps, (("c", "start", 2, 2, 1), ("d", "v", 1, 2, 0)))

    def test_later_rest(self):
        run = Run(TWO).wait(ticks=3)
        rest = later_rest(run, "v")
        self.assertEqual((rest.bound("v", "start"), rest.bound("start", "v"), rest.bound("w", "start")), (-4, None, -3))
        self.assertEqual(rest.steps, (("c", "start", 3, 4, 1), ("d", "v", 1, 2, 0)))
        self.assertEqual(later_rest(run, "v", "w"), run.do().wait().rest)
        self.assertEqual(later_rest(run, "w", "v"), run.do().wait().rest)
        self.assertEqual(later_rest(run), run.hear().rest)
        self.assertEqual(later_rest(run.hear("c"), "w"), run.hear("c").rest.with_bound("w", "start", -4))
        # A bound of the plan may already ask for more.
        self.assertEqual(later_rest(Run(TWO), "v"), Run(TWO).hear().rest)
        self.assertEqual(later_rest(Run(TWO).wait(), "v"), Run(TWO).wait().hear().rest)
        self.assertEqual(later_rest(Run(TWO).wait(ticks=2), "v").bound("v", "start"), -3)

    def test_later_rest_of_done_events_is_none(self):
        run = Run(TWO).do("w")
        for call in (done_rest, later_rest):
            for events in (("w",), ("v", "w"), ("v", "v")):
                self.refuses(InvalidOperation, call, run, *events)

    def test_against_runs(self):
        for game, run, _ in some_runs(80, 151, steps=3):
            if must_come(run):
                continue
            for events in subsets(run.left) if run.tick <= run.plan.horizon else ((),):
                self.assertEqual(done_rest(run, *events), behind(run).do(*events).rest)
                expected = behind(run).rest
                for event in events:
                    most = min(expected.bound(event, "start"), -run.tick - 1)
                    expected = expected.with_bound(event, "start", most)
                self.assertEqual(later_rest(run, *events), expected)
            if run.tick <= run.plan.horizon:
                self.assertEqual(later_rest(run, *run.left), behind(run).wait().rest)

    def test_behind_the_horizon(self):
        run = Run(Plan(3, events=("v", "w"))).do("v").wait(ticks=4)
        for call in (done_rest, later_rest):
            self.refuses(InvalidOperation, call, run, "w")
            self.assertEqual(call(run), run.hear().rest)

    def test_errors(self):
        for call in (done_rest, later_rest):
            for value in ODD + (TWO, Run):
                if not isinstance(value, Run):
                    self.refuses(InvalidRun, call, value)
                    self.refuses(InvalidRun, call, value, "x")
                self.keeps(UnknownName, "name", value, call, Run(TWO), value)
                self.keeps(UnknownName, "name", value, call, Run(TWO), "v", "v", value, "x")
                self.keeps(UnknownName, "name", value, call, Run(TWO).wait(ticks=5), value)
            missing = Run(TWO).wait(ticks=5)
            for events in ((), ("v",), ("v", "w")):
                self.refuses(InvalidOperation, call, missing, *events)
            self.keeps(UnknownName, "name", "c", call, missing, "v", "c")
            self.assertEqual(call(missing.hear("c")), missing.hear("c").rest)


class Verdicts(Case):
    def test_examples(self):
        begun = Run(NEAR)
        self.assertEqual([verdicts(begun), verdicts(begun.wait(ticks=3))], [{"v": "not"}, {"v": "free"}])

    def test_near(self):
        words = []
        for tick in range(5):
            words.append(verdict_on(Run(NEAR).wait(ticks=tick) if tick else Run(NEAR), "v"))
        self.assertEqual(words, ["not", "not", "not", "free", "free"])
        run = Run(NEAR).wait(ticks=2).hear("c")
        self.assertEqual(verdict_on(run, "v"), "free")
        self.assertEqual(verdict_on(run.wait(), "v"), "must")
        self.assertIs(is_refutation(run.wait(ticks=2).hear().rest, self.refuses(Refuted, verdicts, run.wait(ticks=2)).paper),
                      True)
        run = Run(NEAR).wait(ticks=5).hear("c")
        self.assertEqual((verdicts(run), verdicts(run.wait())), ({"v": "free"}, {"v": "must"}))

    def test_the_last_tick(self):
        plan = Plan(3, events=("v", "w"))
        self.assertEqual(verdicts(Run(plan).wait(ticks=2)), {"v": "free", "w": "free"})
        self.assertEqual(verdicts(Run(plan).wait(ticks=3)), {"v": "must", "w": "must"})
        self.assertEqual(verdicts(Run(plan).do("v", "w")), {})
        self.refuses(Refuted, verdicts, Run(plan).wait(ticks=4))
        self.refuses(Refuted, verdict_on, Run(plan).wait(ticks=4), "w")
        self.assertEqual(verdicts(Run(plan).do("v", "w").wait(ticks=9)), {})

    def test_a_free_event_stops_being_free(self):
        run = Run(TWO).wait(ticks=3)
        self.assertEqual(verdicts(run), {"v": "free", "w": "free"})
        self.assertEqual(verdicts(run.do("v")), {"w": "must"})
        self.assertEqual(verdicts(run.do("w")), {"v": "free"})
        self.assertEqual(list(choices(run)), [(), ("w",), ("v", "w")])

    def test_before_the_news_nothing_is_heard(self):
        for game, run, _ in some_runs(40, 152, steps=3):
            if not run.is_behind and not must_come(run) and is_driven(run.hear().rest):
                self.assertEqual(verdicts(run), verdicts(run.hear()))
                self.assertEqual(list(choices(run)), list(choices(run.hear())))
                self.assertEqual(is_sound(run), is_sound(run.hear()))

    def test_against_the_game(self):
        words = []
        for game, run, _ in some_runs(200, 153, steps=3):
            if must_come(run):
                continue
            run = behind(run)
            at = moment(run)
            if not is_driven_from(game, run):
                paper = self.refuses(Refuted, verdicts, run).paper
                self.assertIs(is_refutation(run.rest, paper), True)
                for event in run.left:
                    for call in (verdict_on, move_paper):
                        self.assertIs(is_refutation(run.rest, self.refuses(Refuted, call, run, event).paper), True)
                continue
            found = verdicts(run)
            self.assertEqual(list(found), list(run.left))
            for event in run.left:
                done = any(game.doing(*at, events) for events in subsets(run.left) if event in events)
                later = any(game.doing(*at, events) for events in subsets(run.left) if event not in events)
                self.assertTrue(done or later)
                self.assertEqual(found[event], "must" if not later else "not" if not done else "free")
                self.assertEqual(verdict_on(run, event), found[event])
                self.assertEqual(is_driven(done_rest(run, event)), done)
                self.assertEqual(is_driven(later_rest(run, event)), later)
                words.append(found[event])
        self.assertGreater(min(words.count(word) for word in ("must", "not", "free")), 100)

    def test_what_must_or_must_not_be_done_stays_so(self):
        seen = 0
        for game, run, _ in some_runs(80, 154, steps=3):
            run = behind(run) if not must_come(run) else None
            if run and is_driven_from(game, run):
                before = verdicts(run)
                for events in subsets(run.left):
                    if run.tick <= run.plan.horizon and is_driven_from(game, run.do(*events)):
                        for event, word in verdicts(run.do(*events)).items():
                            self.assertTrue(before[event] in (word, "free"))
                            seen += 1
        self.assertGreater(seen, 300)

    def test_errors(self):
        run = Run(NEAR).wait(ticks=2)
        for value in ODD + (NEAR, Run, "c", "x"):
            if not isinstance(value, Run):
                self.refuses(InvalidRun, verdicts, value)
                for call in (verdict_on, move_paper):
                    self.refuses(InvalidRun, call, value, "v")
                    self.refuses(InvalidRun, call, value, None)
                self.refuses(InvalidRun, is_move_paper, value, None, None)
            for call in (verdict_on, move_paper):
                self.keeps(UnknownName, "name", value, call, run, value)
                self.keeps(UnknownName, "name", value, call, Run(EXACT), value)
                self.keeps(UnknownName, "name", value, call, Run(NEAR).wait(ticks=5), value)
            self.keeps(UnknownName, "name", value, is_move_paper, run, value, None)
        for call in (verdict_on, move_paper):
            self.refuses(InvalidOperation, call, run.do("v"), "v")
            self.refuses(InvalidOperation, call, Run(EXACT).do("v"), "v")
            self.refuses(InvalidOperation, call, Run(NEAR).wait(ticks=5), "v")
            self.refuses(Refuted, call, Run(EXACT), "v")
        self.refuses(InvalidOperation, is_move_paper, run.do("v"), "v", None)
        self.refuses(InvalidOperation, is_move_paper, Run(NEAR).wait(ticks=5), "v", None)
        self.refuses(InvalidOperation, verdicts, Run(NEAR).wait(ticks=5))
        # Also if the rest is refuted, the missing news is told first.
        late = Run(EXACT).wait(ticks=5)
        for call in (verdicts, is_sound, stand):
            self.refuses(InvalidOperation, call, late)
        self.refuses(InvalidOperation, next, choices(late))

    def test_nothing_stays(self):
        run = Run(NEAR)
        verdicts(run)["v"] = "must"
        self.assertEqual(verdicts(run), {"v": "not"})
        self.assertEqual(run, Run(NEAR))


class MovePapers(Case):
    def test_all_words(self):
        run = Run(NEAR).wait(ticks=2)
        for one, word, kinds in (
            (run, "not", ("refuted", "table")), (run.wait(), "free", ("table", "table")),
            (run.hear("c").wait(), "must", ("table", "refuted")),
        ):
            paper = move_paper(one, "v")
            self.assertEqual((paper[0], (paper[1][0], paper[2][0])), (word, kinds))
            self.assertIs(is_move_paper(one, "v", paper), True)
            for other in ("must", "not", "free", "", "Must", None, 0, ("must",)):
                self.assertIs(is_move_paper(one, "v", (other, *paper[1:])), other == word)
            self.assertIs(is_move_paper(one, "v", (word, paper[2], paper[1])), False)
            for wrong in (list(paper), paper[:2], (*paper, 0), paper[1:], paper[0], (word, (paper[1], paper[2]))):
                self.assertIs(is_move_paper(one, "v", wrong), False)
            for value in ODD:
                self.assertIs(is_move_paper(one, "v", value), False)
                self.assertIs(is_move_paper(one, "v", (word, value, paper[2])), False)
                self.assertIs(is_move_paper(one, "v", (word, paper[1], value)), False)

    def test_other_correct_papers(self):
        run = Run(NEAR).wait(ticks=2)
        _, done, later = move_paper(run, "v")
        longer = (done[0], done[1] + done[1][:1], done[2] * 2)
        shifted = (*later[:3], {point: number + 7 for point, number in later[3].items()})
        self.assertIs(is_move_paper(run, "v", ("not", longer, shifted)), True)
        self.assertIs(is_move_paper(run, "v", ("not", longer, (*later[:3], {**later[3], "v": 99}))), False)
        self.assertIs(is_move_paper(run, "v", ("not", (done[0], done[1], ()), later)), False)

    def test_papers_of_other_moments_and_events(self):
        seen = 0
        papers = []
        for game, run, _ in some_runs(40, 155):
            if not must_come(run) and is_driven_from(game, behind(run)):
                for event in run.left:
                    paper = move_paper(run, event)
                    self.assertIs(is_move_paper(run, event, paper), True)
                    done, later = done_rest(run, event), later_rest(run, event)
                    for word, one, two in papers[-4:]:
                        right = word == paper[0] and all((
                            is_table_paper(done, one) or is_refutation(done, one),
                            is_table_paper(later, two) or is_refutation(later, two),
                        ))
                        self.assertIs(is_move_paper(run, event, (word, one, two)), right)
                        seen += not right
                    papers.append(paper)
        self.assertGreater(seen, 100)

    def test_a_refuted_rest(self):
        for run in (Run(EXACT), Run(EXACT).hear(), Run(NEAR).wait(ticks=4).hear("c").wait(ticks=2), Run(NEAR.deaf()),
                    Run(Plan(3, events=("v",))).wait(ticks=4), Run(NEAR.deaf()).wait(ticks=11)):
            for word in ("must", "not", "free"):
                self.assertIs(is_move_paper(run, "v", (word, paper_of(EXACT), paper_of(EXACT))), False)
                self.assertIs(is_move_paper(run, "v", (word, paper_of(run.rest), paper_of(run.rest))), False)
            self.assertIs(is_move_paper(run, "v", None), False)
        run = Run(EXACT)
        both = paper_of(done_rest(run, "v")), paper_of(later_rest(run, "v"))
        self.assertEqual([paper[0] for paper in both], ["refuted", "refuted"])
        for word in ("must", "not", "free"):
            self.assertIs(is_move_paper(run, "v", (word, *both)), False)

    def test_nothing_changes(self):
        run = Run(NEAR)
        paper = move_paper(run, "v")
        before = move_paper(run, "v")
        is_move_paper(run, "v", paper)
        self.assertEqual(paper, before)
        paper[2][1].clear()
        self.assertEqual(move_paper(run, "v"), before)


class Sound(Case):
    def test_near(self):
        self.assertIs(is_sound(Run(NEAR)), True)
        self.assertIs(is_sound(Run(EXACT)), False)
        self.assertIs(is_sound(Run(NEAR).do("v")), False)
        self.assertIs(is_sound(Run(NEAR).wait(ticks=3).do("v")), True)
        self.assertIs(is_sound(Run(NEAR).wait(ticks=3).do("v").wait(ticks=2).hear("c").wait(ticks=395)), True)

    def test_a_rest_that_is_driven_again(self):
        # Done too early, but then the end came soon.
        run = Run(NEAR).wait(ticks=2).do("v").wait(ticks=2)
        self.assertIs(is_driven(run.rest), False)
        self.assertIs(is_driven(run.hear("c").rest), True)
        self.assertIs(is_sound(run.hear("c")), False)
        # What happens later does not matter for what was sound before.
        self.assertIs(is_sound(Run(NEAR).wait(ticks=2)), True)

    def test_before_the_news_only(self):
        # Before the news of tick 2 the end might not come in it, and then the event could not be done in time.
        plan = Plan(9, events=("v",), steps=(("c", "start", 1, 3, 0),), bounds=(("c", "v", 0), ("v", "c", 0)))
        run = Run(plan).wait(ticks=2)
        self.assertIs(is_sound(run.hear("c").do("v")), True)
        self.assertIs(is_sound(run.hear("c").wait()), False)
        tight = plan.with_bound("start", "v", 2)
        run = Run(tight).wait(ticks=2)
        self.assertIs(is_driven(run.hear("c").rest), True)
        self.assertIs(is_sound(run.hear("c")), False)

    def test_against_the_game(self):
        kinds = []
        for game, run, sound in some_runs(250, 156, steps=3):
            if not must_come(run):
                expected = sound and is_driven_from(game, behind(run))
                self.assertIs(is_sound(run), expected)
                kinds.append(expected)
        self.assertGreater(min(kinds.count(True), kinds.count(False)), 500)

    def test_long_runs(self):
        plan = Plan(99, events=("v",), steps=(("c", "v", 1, 99, 99),), bounds=(("start", "v", 99),))
        run = Run(plan).wait(ticks=99).do("v").wait(ticks=198).hear("c").wait(ticks=103)
        self.assertEqual((run.tick, is_sound(run), verdicts(run)), (400, True, {}))
        self.assertIs(is_sound(Run(plan).wait(ticks=100)), False)

    def test_errors(self):
        for value in ODD + (NEAR, None):
            if not isinstance(value, Run):
                for call in (is_sound, stand):
                    self.refuses(InvalidRun, call, value)
                self.refuses(InvalidRun, next, choices(value))


class Stands(Case):
    def test_near(self):
        plain, late = derived_table(NEAR)
        arcs = stand(Run(NEAR))
        expected = [(u, v, w) for (u, v), w in plain.items()] + [("c", "start", -5), ("v", "start", -3)]
        expected += [("start", "start", 0), ("v", "start", 0)]
        self.assertEqual(arcs, tuple(sorted(set(expected))))
        self.assertIs(is_arcs(arcs), True)
        run = Run(NEAR).wait(ticks=2).hear("c")
        self.assertEqual(stand(run), drive_answers.stand(run, plain, late))
        self.assertNotIn(("v", "start", -3), stand(run))
        self.assertIn(("start", "c", 2), stand(run))
        self.assertIn(("c", "start", -2), stand(run))
        self.assertIn(("v", "start", -2), stand(run))

    def test_ascending_and_each_once(self):
        for game, run, _ in some_runs(60, 157, steps=3):
            if not must_come(run) and is_driven(run.plan):
                arcs = stand(run)
                self.assertEqual(arcs, tuple(sorted(set(arcs))))
                self.assertEqual(arcs, drive_answers.stand(behind(run), *derived_table(run.plan)))

    def test_one_table_answers_for_a_whole_run(self):
        words = []
        for game, run, sound in (*some_runs(250, 158, steps=3), *runs_of(RARE * 5, 161)):
            if must_come(run) or not sound:
                continue
            run = behind(run)
            arcs = stand(run)
            self.assertEqual(not drive_answers.has_ring(arcs), is_driven_from(game, run))
            if is_driven_from(game, run):
                sums = distances(arcs, "start")
                for event, word in verdicts(run).items():
                    self.assertEqual(word != "not", run.tick + distances(arcs, event)["start"] >= 0)
                    self.assertEqual(word == "must", sums[event] == run.tick)
                    words.append(word)
        self.assertGreater(min(words.count(word) for word in ("must", "not", "free")), 50)

    def test_runs_that_are_not_sound(self):
        run = Run(NEAR).do("v").wait(ticks=2)
        self.assertIs(is_sound(run), False)
        self.assertEqual(stand(run), drive_answers.stand(run.hear(), *derived_table(NEAR)))
        self.assertIs(drive_answers.has_ring(stand(run)), True)

    def test_refuted_plans(self):
        for plan in (EXACT, NEAR.deaf()):
            for run in (Run(plan), Run(plan).do("v"), Run(plan).wait(ticks=3)):
                paper = self.refuses(Refuted, stand, run).paper
                self.assertIs(is_refutation(plan, paper), True)

    def test_plans_at_the_limits(self):
        plan = Plan(99, events=TEN_EVENTS, steps=FIVE_STEPS, bounds=(("p", "a", 0), ("a", "p", 1)))
        for run in (Run(plan), Run(plan).wait().hear("p", "q").do("a", "j"), Run(plan).do(*TEN_EVENTS[1:])):
            arcs = stand(run)
            self.assertEqual(arcs, drive_answers.stand(behind(run), *derived_table(plan)))
            self.assertIs(is_arcs(arcs), True)
            expected = {event: "free" for event in run.left}
            if "a" in expected:
                expected["a"] = "not"
            self.assertEqual(verdicts(run), expected)
            self.assertIs(is_sound(run), True)
        run = Run(plan).wait().hear("q")
        self.assertEqual(verdict_on(run, "a"), "free")
        self.assertEqual(verdict_on(run.wait().hear("p", "r", "s", "t"), "a"), "must")
        self.assertIs(is_move_paper(run, "j", move_paper(run, "j")), True)
        self.keeps(TooMany, "limit", 6, next, choices(run))
        run = Run(plan).do(*TEN_EVENTS[4:])
        self.assertEqual(list(choices(run)), list(subsets(("b", "c", "d"))))


class Choices(Case):
    def test_examples(self):
        self.assertEqual(list(choices(Run(NEAR).wait(ticks=3))), [(), ("v",)])
        self.assertEqual(list(choices(Run(NEAR))), [()])
        self.assertEqual(list(choices(Run(NEAR).wait().hear("c").wait())), [("v",)])

    def test_by_length_then_ascending(self):
        self.assertEqual(list(choices(Run(Plan(3, events=("b", "c", "a"))))), list(subsets("abc")))
        self.assertEqual(list(choices(Run(Plan(0, events=("b", "c", "a"))))), [("a", "b", "c")])
        self.assertEqual(list(choices(Run(Plan(0)))), [()])
        self.assertEqual(list(choices(Run(Plan(0)).wait(ticks=400))), [()])
        self.assertEqual(list(choices(Run(Plan(3, events=("a", "b"))).do("a"))), [(), ("b",)])

    def test_six_and_seven_events(self):
        run = Run(SIX)
        expected = [events for events in subsets("abcdef") if "c" not in events and ("a" not in events or "b" in events)]
        self.assertEqual(list(choices(run)), expected)
        run = Run(SEVEN)
        for _ in range(2):
            self.keeps(TooMany, "limit", 6, next, choices(run))
            self.keeps(TooMany, "limit", 6, list, choices(run))
            run = run.wait()
        self.assertEqual(len(list(choices(Run(SEVEN).do("g")))), len(expected))
        # There are too many events also if the rest is refuted.
        self.keeps(TooMany, "limit", 6, next, choices(Run(SEVEN).wait(ticks=9)))
        self.refuses(Refuted, next, choices(Run(SIX).wait(ticks=9)))
        missing = Run(Plan(9, events=SEVEN.events, steps=(("z", "start", 1, 1, 0),))).wait()
        self.refuses(InvalidOperation, next, choices(missing))

    def test_against_the_game(self):
        seen = 0
        for game, run, _ in some_runs(200, 159, steps=3):
            if not must_come(run) and is_driven_from(game, behind(run)):
                at = moment(behind(run))
                expected = [events for events in subsets(run.left) if game.doing(*at, events)]
                self.assertEqual(list(choices(run)), expected)
                seen += len(expected) > 1
        self.assertGreater(seen, 300)

    def test_errors_come_with_the_first_result(self):
        for run in (None, NEAR, Run(SEVEN), Run(EXACT), Run(NEAR).wait(ticks=5)):
            choices(run)
        self.refuses(InvalidRun, next, choices(NEAR))
        self.refuses(InvalidOperation, next, choices(Run(NEAR).wait(ticks=5)))
        paper = self.refuses(Refuted, next, choices(Run(EXACT))).paper
        self.assertIs(is_refutation(Run(EXACT).hear().rest, paper), True)
        self.refuses(Refuted, list, choices(Run(Plan(3, events=("v",))).wait(ticks=4)))

    def test_nothing_changes(self):
        run = Run(TWO).wait(ticks=3)
        for _ in choices(run):
            pass
        self.assertEqual(run, Run(TWO).wait(ticks=3))


class RestsAreDecided(Case):
    """After every part of a run the rest of it is a plan again ([0.14])."""

    def test_papers_drivers_and_opponents_go_on(self):
        for game, run, _ in some_runs(60, 160, steps=3):
            rest = run.rest
            driven = is_driven_from(game, run)
            self.assertEqual(paper_of(rest)[0], "table" if driven else "refuted")
            if driven:
                driver = EagerDriver(rest)
                for durations in extremes(rest):
                    done, last = drive(driver, durations)
                    times = last.finished(durations)
                    self.assertEqual(time_answers.broken(run.plan, times), ())
                    self.assertEqual({**times, **{point: run.times[point] for point in done if point in run.times}}, times)
            else:
                verdict = duel(PolicyDriver(rest, {}), Opponent(rest))[1]
                self.assertEqual(verdict[0], "undone" if rest.events else "bound")


if __name__ == "__main__":
    unittest.main()
