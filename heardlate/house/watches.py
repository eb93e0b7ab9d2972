"""Watches: questions about the plans and runs of a house, and their answers."""

from heardlate.base.names import is_name
from heardlate.drive.moves import verdicts
from heardlate.errors import PlanError, Refuted
from heardlate.facts.decided import is_driven
from heardlate.margins.hearing import least_sets
from heardlate.margins.margins import margin
from heardlate.runs.runs import Run


def is_watch_question(value):
    """Whether the value is a watch question."""
    if not isinstance(value, tuple) or len(value) not in (2, 3) or not is_name(value[1]):
        return False
    if len(value) == 2:
        return value[0] in ("driven", "least sets", "verdicts")
    if value[0] != "margin" or not isinstance(value[2], tuple):
        return False
    return all([isinstance(word, str) for word in value[2]])


def answers_behind(questions, stock, before, answers):
    """The answers in a stock, with those in the stock before it; only those are sought that can be others."""
    found = {}
    for name in sorted(questions):
        asked = questions[name][1]
        if stock.find_any(asked) == before.find_any(asked):
            found[name] = answers[name]
        else:
            found[name] = answer_in(questions[name], stock)
    return found


def answer_in(question, stock):
    """The answer to a question in a stock."""
    value = stock.find_any(question[1])
    if value is None:
        return "undefined"
    try:
        return _answer_about(value, question)
    except Refuted:
        return "refuted"
    except PlanError:
        return "undefined"


def copied(answer):
    """The answer, a dict as a new one."""
    return dict(answer) if isinstance(answer, dict) else answer


def _answer_about(value, question):
    """The answer about a plan or a run."""
    word = question[0]
    is_run = isinstance(value, Run)
    if word == "driven":
        return is_driven(value.rest if is_run else value)
    if is_run != (word == "verdicts"):
        return "undefined"
    if is_run:
        return verdicts(value)
    if word == "margin":
        return margin(value, question[2])
    return least_sets(value)
