"""Watches of a house: their questions, answers and news ([19.3], stage 19)."""

import random
import unittest

from heardlate.drive.moves import verdicts
from heardlate.errors import InvalidEdit, InvalidOperation, Refuted, UnknownName
from heardlate.facts.decided import is_driven
from heardlate.house.house import House
from heardlate.margins.hearing import least_sets
from heardlate.margins.margins import margin
from heardlate.plans.plans import Plan
from tests import house_answers
from tests.samples import EXACT, NEAR, ODD, Case

QUESTIONS = {
    "a": ("driven", "near"), "b": ("driven", "one"), "c": ("margin", "near", ("delay", "c")), "d": ("least sets", "near"),
    "e": ("verdicts", "one"),
}


def begun():
    house = House()
    house.apply(("plan", "near", NEAR), ("run", "one", "near"), ("wait", "one", 3))
    return house


def watched():
    house = begun()
    for name in QUESTIONS:
        house.watch(name, QUESTIONS[name])
    return house


def answer(house, question):
    """The answer as the document tells it, from the plans and runs of a house."""
    word, name = question[:2]
    plan, run = house.plans.get(name), house.runs.get(name)
    try:
        if word == "driven" and (plan or run):
            return is_driven(plan or run.rest)
        if word == "margin" and plan:
            return margin(plan, question[2])
        if word == "least sets" and plan:
            return least_sets(plan)
        if word == "verdicts" and run:
            return verdicts(run)
    except Refuted:
        return "refuted"
    except InvalidOperation:
        return "undefined"
    return "undefined"


class Questions(Case):
    def test_example(self):
        house = House()
        self.assertEqual(
            [house.apply(("plan", "near", NEAR), ("run", "one", "near"), ("wait", "one", 3)),
             house.watch("w", ("verdicts", "one"))], [1, None],
        )
        self.assertEqual(
            [house.apply(("bound", "near", "c", "v", -1)), house.answers, house.undo(), list(house.news())],
            [2, {"w": {"v": "must"}}, 1, [("w", {"v": "must"}, {"v": "free"})]],
        )

    def test_each_kind(self):
        house = watched()
        self.assertEqual(house.answers, {"a": True, "b": True, "c": 1, "d": (("c",),), "e": {"v": "free"}})
        self.assertEqual(list(house.answers), sorted(QUESTIONS))
        # The run stands before the news of its tick, in which the end can come; behind them it is the other way round.
        house.apply(("bound", "near", "c", "v", -1))
        self.assertEqual(
            house.answers, {"a": False, "b": False, "c": "refuted", "d": "refuted", "e": {"v": "must"}},
        )
        house.apply(("do", "one", ("v",)))
        self.assertEqual([house.answers[name] for name in "be"], [True, {}])
        house.apply(("wait", "one", 1), ("bound", "near", "v", "c", 1))
        self.assertEqual([house.answers[name] for name in "be"], [False, "refuted"])
        house.apply(("drop", "one"))
        self.assertEqual([house.answers[name] for name in "be"], ["undefined"] * 2)
        house.apply(("rename", "near", "one"))
        self.assertEqual(house.answers, {"a": "undefined", "b": False, "c": "undefined", "d": "undefined", "e": "undefined"})

    def test_names_that_are_not_there(self):
        house = House()
        for name in QUESTIONS:
            house.watch(name, QUESTIONS[name])
        self.assertEqual(house.answers, dict.fromkeys("abcde", "undefined"))
        house.apply(("plan", "near", NEAR), ("run", "one", "near"))
        self.assertEqual(house.answers, {"a": True, "b": True, "c": 1, "d": (("c",),), "e": {"v": "not"}})
        self.assertEqual(list(house.news()), [
            ("a", "undefined", True), ("b", "undefined", True), ("c", "undefined", 1), ("d", "undefined", (("c",),)),
            ("e", "undefined", {"v": "not"}),
        ])
        house.undo()
        self.assertEqual(house.answers, dict.fromkeys("abcde", "undefined"))

    def test_questions_about_the_wrong_kind(self):
        house = begun()
        house.watch("a", ("margin", "one", ("delay", "c")))
        house.watch("b", ("least sets", "one"))
        house.watch("c", ("verdicts", "near"))
        self.assertEqual(house.answers, dict.fromkeys("abc", "undefined"))

    def test_questions_that_are_none_for_the_plan(self):
        house = begun()
        for place, question in enumerate((
            (), ("delay",), ("delay", "v"), ("delay", "x"), ("bound", "v", "v"), ("bound", "v"), ("", ""), ("all", "c"), ("no", "c"),
            ("bound", "v", "c", "c"), ("some words", "\n", "c" * 50),
        )):
            house.watch("w" + "abcdefghijk"[place], ("margin", "near", question))
        self.assertEqual(set(house.answers.values()), {"undefined"})
        house.watch("wa", ("margin", "near", ("all",)))
        house.watch("wb", ("margin", "near", ("bound", "c", "v")))
        house.watch("wc", ("margin", "near", ("least", "c")))
        house.watch("wd", ("margin", "near", ("most", "c")))
        self.assertEqual([house.answers[name] for name in ("wa", "wb", "wc", "wd")], [5, 0, 1, 12])

    def test_a_margin_that_is_never(self):
        house = House()
        house.apply(("plan", "p", NEAR.without_bound("v", "c")))
        house.watch("w", ("margin", "p", ("delay", "c")))
        self.assertEqual(house.answers, {"w": None})
        house.apply(("bound", "p", "v", "c", 2))
        self.assertEqual(list(house.news()), [("w", None, 1)])

    def test_news_that_must_come(self):
        house = begun()
        house.watch("w", ("verdicts", "one"))
        house.watch("x", ("driven", "one"))
        house.apply(("wait", "one", 2))
        self.assertEqual(house.answers["w"], "undefined")
        self.assertIs(house.answers["x"], True)
        house.apply(("hear", "one", ("c",)))
        self.assertEqual(house.answers, {"w": {"v": "free"}, "x": True})

    def test_the_rest_of_a_run(self):
        house = begun()
        house.watch("w", ("driven", "one"))
        house.apply(("wait", "one", 1))
        self.assertEqual((house.answers, is_driven(house["one"].rest)), ({"w": True}, True))
        house.apply(("do", "one", ()), ("wait", "one", 1))
        self.assertEqual((house.answers, is_driven(house["one"].rest)), ({"w": True}, True))
        house.undo(count=3)
        house.apply(("plan", "p", EXACT), ("run", "one", "p"), ("do", "one", ("v",)))
        self.assertEqual((house.answers, is_driven(house["one"].rest)), ({"w": False}, False))

    def test_watches_are_added_replaced_and_removed(self):
        house = begun()
        self.assertIsNone(house.watch("w", ("driven", "near")))
        self.assertEqual(house.answers, {"w": True})
        house.watch("v", ("driven", "none"))
        self.assertEqual(list(house.answers.items()), [("v", "undefined"), ("w", True)])
        house.watch("w", ("margin", "near", ("all",)))
        self.assertEqual(house.answers, {"v": "undefined", "w": 5})
        self.assertIsNone(house.unwatch("w"))
        self.assertEqual(house.answers, {"v": "undefined"})
        self.keeps(UnknownName, "name", "w", house.unwatch, "w")
        house.watch("near", ("verdicts", "one"))
        self.assertEqual(house.answers["near"], {"v": "free"})
        self.assertIsNone(house.watch(question=("driven", "one"), name="start"))
        self.assertIsNone(house.unwatch(name="start"))

    def test_errors(self):
        house = watched()
        before = house.answers
        for name in ODD + ("W", "abcdefghi", "", None, 1, True, ("w",), ["w"]):
            if name not in ("zz", "start"):
                self.refuses(InvalidOperation, house.watch, name, ("driven", "near"))
                self.refuses(InvalidOperation, house.watch, name, None)
                self.refuses(InvalidOperation, house.unwatch, name)
        for question in ODD + (
            ("driven",), ("driven", "NEAR"), ("driven", 1), ("driven", ["near"]), ("driven", "near", "x"), ["driven", "near"],
            ("Driven", "near"), ("margin", "near"), ("margin", "near", ["all"]), ("margin", "near", "all"), ("margin", "near", (1,)),
            ("margin", "near", ("all", None)), ("margin", "near", (("all",),)), ("margin", "", ("all",)), ("margin", "near", ("all",), 1),
            ("least sets",), ("least sets", "abcdefghi"), ("least sets", "near", ()), ("least_sets", "near"), ("verdicts",),
            ("verdicts", "one", "v"), ("verdicts", True), ("verdict", "one"), ("margin", ("all",), "near"), (), "driven",
            ("driven", None), ("driven", "near", ()), ("margin", 3, ("all",)), (None, "near"), (["driven"], "near"),
        ):
            self.refuses(InvalidOperation, house.watch, "w", question)
            self.refuses(InvalidOperation, house.watch, "a", question)
        self.assertEqual(house.answers, before)
        for name in ("w", "near", "one"):
            self.keeps(UnknownName, "name", name, house.unwatch, name)

    def test_answers_hand_out_nothing(self):
        house = watched()
        before = house.answers
        house.answers["e"].clear()
        house.answers.clear()
        house.tried()["e"].clear()
        house.apply(("bound", "near", "c", "v", -1))
        for _, old, new in house.news():
            if isinstance(old, dict):
                old.clear()
                new.clear()
        self.assertEqual([news for news in house.news() if news[0] == "e"], [("e", {"v": "free"}, {"v": "must"})])
        house.undo()
        self.assertEqual(house.answers, before)


class News(Case):
    def test_nothing_at_first(self):
        self.assertEqual(list(House().news()), [])
        house = House()
        house.watch("w", ("driven", "near"))
        self.assertEqual(list(house.news()), [])
        house = watched()
        # The watches were added behind the group, whose news are asked for all the same.
        self.assertEqual([name for name, _, _ in house.news()], list("abcde"))

    def test_only_what_changed(self):
        house = watched()
        house.apply(("bound", "near", "c", "v", -1))
        self.assertEqual(list(house.news()), [
            ("a", True, False), ("b", True, False), ("c", 1, "refuted"), ("d", (("c",),), "refuted"),
            ("e", {"v": "free"}, {"v": "must"}),
        ])
        house.apply(("bound", "near", "start", "v", 9))
        self.assertEqual(list(house.news()), [])
        house.apply(("plan", "x", NEAR))
        self.assertEqual(list(house.news()), [])

    def test_news_of_undone_groups_and_those_made_again(self):
        house = watched()
        house.apply(("bound", "near", "c", "v", 0))
        house.undo()
        back = [("c", 0, 1)]
        self.assertEqual(list(house.news()), back)
        self.assertEqual(list(house.news()), back)
        house.redo()
        self.assertEqual(list(house.news()), [("c", 1, 0)])

    def test_of_several_at_once_the_last_one(self):
        house = begun()
        house.watch("w", ("margin", "near", ("all",)))
        house.apply(("step", "near", "c", "start", 1, 6, 0))
        house.apply(("step", "near", "c", "start", 1, 7, 0))
        house.apply(("step", "near", "c", "start", 1, 8, 0))
        self.assertEqual(list(house.news()), [("w", 7, 8)])
        house.undo(count=2)
        self.assertEqual(list(house.news()), [("w", 7, 6)])
        house.undo()
        self.assertEqual(list(house.news()), [("w", 6, 5)])
        house.redo(count=3)
        self.assertEqual(list(house.news()), [("w", 7, 8)])
        house.undo(count=4)
        self.assertEqual(list(house.news()), [("w", 5, "undefined")])

    def test_a_group_of_several_edits(self):
        house = begun()
        house.watch("w", ("margin", "near", ("all",)))
        house.apply(("step", "near", "c", "start", 1, 6, 0), ("step", "near", "c", "start", 1, 7, 0))
        self.assertEqual(list(house.news()), [("w", 5, 7)])
        house.apply(("step", "near", "c", "start", 1, 6, 0), ("step", "near", "c", "start", 1, 7, 0))
        self.assertEqual(list(house.news()), [])

    def test_present_watches_count(self):
        house = begun()
        house.watch("w", ("margin", "near", ("all",)))
        house.watch("x", ("driven", "near"))
        house.apply(("step", "near", "c", "start", 1, 6, 0))
        house.watch("v", ("margin", "near", ("most", "c")))
        house.watch("u", ("margin", "near", ("bound", "start", "c")))
        self.assertEqual(list(house.news()), [("u", 5, 6), ("w", 5, 6)])
        # A watch that is replaced is asked by its present question.
        house.watch("w", ("driven", "near"))
        house.watch("x", ("margin", "near", ("all",)))
        self.assertEqual(list(house.news()), [("u", 5, 6), ("x", 5, 6)])
        house.unwatch("u")
        self.assertEqual(list(house.news()), [("x", 5, 6)])

    def test_what_changes_nothing_leaves_the_news(self):
        house = begun()
        house.watch("w", ("margin", "near", ("all",)))
        house.apply(("step", "near", "c", "start", 1, 6, 0))
        expected = [("w", 5, 6)]
        house.apply()
        house.undo(count=0)
        house.redo(count=0)
        self.refuses(InvalidEdit, house.apply, ("drop",))
        house.tried(("drop", "one"))
        house.during(lambda given: given.undo(count=2))
        with house.trial():
            house.apply(("drop", "one"))
        house.memory = 0
        self.assertEqual(list(house.news()), expected)

    def test_news_without_memory(self):
        house = House()
        house.memory = 0
        house.watch("w", ("driven", "near"))
        house.apply(("plan", "near", NEAR))
        self.assertEqual(list(house.news()), [("w", "undefined", True)])
        house.apply(("plan", "near", EXACT))
        self.assertEqual(list(house.news()), [("w", True, False)])

    def test_the_first_news_come_without_the_others(self):
        house = watched()
        news = house.news()
        self.assertEqual(next(news), ("a", "undefined", True))
        self.assertEqual(next(news), ("b", "undefined", True))
        self.assertIs(iter(news), news)

    def test_against_the_answers_before_and_behind(self):
        chance = random.Random(591)
        kinds = set()
        for seed in range(60, 75):
            house, questions = House(), {}
            for record, word, value in house_answers.some_history(seed, 40):
                ask(house, questions, record, chance)
                before = {name: answer(house, questions[name]) for name in questions}
                if word == "memory":
                    continue
                if word in ("undo", "redo"):
                    value = min(value, 1)
                call = {"apply": lambda: house.apply(*value), "undo": lambda: house.undo(count=value),
                        "redo": lambda: house.redo(count=value)}[word]
                other = {"apply": record.apply, "undo": record.undo, "redo": record.redo}[word]
                try:
                    other(value)
                except house_answers.OWN:
                    self.assertRaises(house_answers.OWN, call)
                    continue
                if word == "apply":
                    tried = house.tried(*value)
                call()
                after = {name: answer(house, questions[name]) for name in questions}
                self.assertEqual((house.answers, list(house.answers)), (after, sorted(after)))
                if word == "apply":
                    self.assertEqual((tried, list(tried)), (after, sorted(after)))
                if value not in (0, ()):
                    changed = [(name, before[name], after[name]) for name in sorted(after) if before[name] != after[name]]
                    self.assertEqual(list(house.news()), changed)
                    kinds |= {(questions[name][0], str(type(new))) for name, _, new in changed}
        self.assertGreater(len(kinds), 6, kinds)


def ask(house, questions, record, chance):
    """Adds or replaces a watch with a drawn question."""
    name = chance.choice(sorted(record.plans) + sorted(record.runs) + ["none"])
    plan = record.plans.get(name, NEAR)
    drawn = [("driven", name), ("least sets", name), ("verdicts", name), ("margin", name, ("all",))]
    drawn += [("margin", name, ("delay", end)) for end in plan.ends]
    watch = chance.choice("abcdefgh")
    questions[watch] = chance.choice(drawn)
    house.watch(watch, questions[watch])


if __name__ == "__main__":
    unittest.main()
