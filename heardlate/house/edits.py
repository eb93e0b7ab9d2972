"""Edits: what can be changed in the stock of a house."""

from heardlate.base.names import is_name
from heardlate.errors import InvalidEdit, UnknownName
from heardlate.plans.plans import check_plan
from heardlate.runs.runs import Run

_SIZES = {"plan": 3, "bound": 5, "step": 7, "rename": 3, "drop": 2, "run": 3, "hear": 3, "do": 3, "wait": 3}


def edited(stock, edits):
    """The stock behind these edits, one after another."""
    behind = stock
    for edit in edits:
        if not _is_edit(edit):
            raise InvalidEdit("an edit has one of nine forms")
        behind = _edited(behind, edit)
    return behind


def _is_edit(value):
    if not isinstance(value, tuple) or len(value) == 0 or not isinstance(value[0], str):
        return False
    word = value[0]
    if word not in _SIZES or len(value) != _SIZES[word]:
        return False
    return word not in ("hear", "do") or isinstance(value[2], tuple)


def _edited(stock, edit):
    word, name = edit[:2]
    values = edit[2:]
    if word == "plan":
        return _with_plan(stock, name, values[0])
    if word == "rename":
        return _renamed(stock, name, values[0])
    if word == "drop":
        return _dropped(stock, name)
    if word == "run":
        return _with_run(stock, name, values[0])
    if word == "bound":
        return stock.with_plan(name, _bounded(stock.plan_called(name), values))
    if word == "step":
        return stock.with_plan(name, _stepped(stock.plan_called(name), values))
    run = _moved(stock.run_called(name), word, values[0])
    return stock.with_run(name, run, stock.owner_by_run[name])


def _with_plan(stock, name, plan):
    if not is_name(name) or name in stock.run_by_name:
        raise InvalidEdit("the name of a plan is a name that no run has")
    check_plan(plan)
    return stock.with_plan(name, plan)


def _with_run(stock, name, owner):
    _check_new(stock, name)
    return stock.with_run(name, Run(stock.plan_called(owner)), owner)


def _renamed(stock, old, new):
    _check_new(stock, new)
    if stock.find_any(old) is None:
        raise UnknownName(old)
    return stock.renamed_to(old, new)


def _dropped(stock, name):
    if stock.has_runs(name):
        raise InvalidEdit("a plan with runs is not dropped")
    if stock.find_any(name) is None:
        raise UnknownName(name)
    return stock.without_any(name)


def _check_new(stock, name):
    if not is_name(name) or stock.find_any(name) is not None:
        raise InvalidEdit("a new name is a name that nothing has")


def _bounded(plan, values):
    first, second, most = values
    if most is None:
        return plan.without_bound(first, second)
    return plan.with_bound(first, second, most)


def _stepped(plan, values):
    end, begin, least, most, delay = values
    if end not in plan.ends:
        raise UnknownName(end)
    return plan.with_step(end, begin, least, most, delay)


def _moved(run, word, value):
    """The run behind a move; what is heard or done is a tuple."""
    if word == "wait":
        return run.wait(ticks=value)
    if word == "hear":
        return run.hear(*value)
    return run.do(*value)
