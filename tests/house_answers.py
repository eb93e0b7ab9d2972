"""A plain record of a house: its plans, the moves of its runs, and everything that it was before."""

import random

from heardlate.base.names import is_name
from heardlate.errors import (
    InvalidEdit, InvalidNumber, InvalidOperation, InvalidPlan, InvalidRun, NothingToUndo, TooMany, UnknownName,
)
from heardlate.plans.plans import Plan
from heardlate.runs.runs import Run
from tests import time_answers

OWN = (InvalidEdit, InvalidNumber, InvalidOperation, InvalidPlan, InvalidRun, NothingToUndo, TooMany, UnknownName)


def played(plan, moves):
    """The run of a plan in which these moves were made one after another."""
    run = Run(plan)
    for word, value in moves:
        if word == "hear":
            run = run.hear(*value)
        elif word == "do":
            run = run.do(*value)
        else:
            run = run.wait(ticks=value)
    return run


class Record:
    def __init__(self):
        self.plans = {}
        self.runs = {}
        self.groups = []
        self.pasts = []
        self.undone = []
        self.memory = 100

    def state(self):
        return dict(self.plans), {name: (owner, list(moves)) for name, (owner, moves) in self.runs.items()}

    def set_state(self, state):
        self.plans = dict(state[0])
        self.runs = {name: (owner, list(moves)) for name, (owner, moves) in state[1].items()}

    def all_runs(self):
        return {name: played(self.plans[owner], moves) for name, (owner, moves) in sorted(self.runs.items())}

    def forget(self):
        while len(self.pasts) > self.memory:
            self.pasts.pop(0)

    def apply(self, group):
        before = self.state()
        try:
            for edit in group:
                self.edit(edit)
        except OWN:
            self.set_state(before)
            raise
        if group:
            self.groups.append(group)
            self.pasts.append(before)
            self.undone = []
            self.forget()
        return len(self.groups)

    def undo(self, many):
        if many > len(self.pasts):
            raise NothingToUndo(many)
        for _ in range(many):
            self.undone.append((self.groups.pop(), self.state()))
            self.set_state(self.pasts.pop())
        return len(self.groups)

    def redo(self, many):
        if many > len(self.undone):
            raise NothingToUndo(many)
        for _ in range(many):
            group, state = self.undone.pop()
            self.groups.append(group)
            self.pasts.append(self.state())
            self.set_state(state)
            self.forget()
        return len(self.groups)

    def set_memory(self, most):
        self.memory = most
        self.forget()

    def edit(self, edit):
        word, *values = edit
        getattr(self, "edit_" + word)(*values)

    def plan(self, name):
        if name not in self.plans:
            raise UnknownName(name)
        return self.plans[name]

    def put(self, name, plan):
        self.plans[name] = plan
        for owner, moves in self.runs.values():
            if owner == name:
                try:
                    played(plan, moves)
                except (InvalidOperation, UnknownName):
                    raise InvalidRun("not possible any more")

    def is_used(self, name):
        return name in self.plans or name in self.runs

    def edit_plan(self, name, plan):
        if not is_name(name) or name in self.runs:
            raise InvalidEdit(name)
        if not isinstance(plan, Plan):
            raise InvalidPlan(name)
        self.put(name, plan)

    def edit_bound(self, name, first, second, most):
        plan = self.plan(name)
        self.put(name, plan.without_bound(first, second) if most is None else plan.with_bound(first, second, most))

    def edit_step(self, name, *step):
        plan = self.plan(name)
        if step[0] not in plan.ends:
            raise UnknownName(step[0])
        self.put(name, plan.with_step(*step))

    def edit_rename(self, old, new):
        if not is_name(new) or self.is_used(new):
            raise InvalidEdit(new)
        if not self.is_used(old):
            raise UnknownName(old)
        if old in self.plans:
            self.plans[new] = self.plans.pop(old)
            self.runs = {name: (new if owner == old else owner, moves) for name, (owner, moves) in self.runs.items()}
        else:
            self.runs[new] = self.runs.pop(old)

    def edit_drop(self, name):
        if any(owner == name for owner, _ in self.runs.values()):
            raise InvalidEdit(name)
        if not self.is_used(name):
            raise UnknownName(name)
        self.plans.pop(name, None)
        self.runs.pop(name, None)

    def edit_run(self, name, owner):
        if not is_name(name) or self.is_used(name):
            raise InvalidEdit(name)
        self.plan(owner)
        self.runs[name] = (owner, [])

    def move(self, name, word, value):
        if name not in self.runs:
            raise UnknownName(name)
        owner, moves = self.runs[name]
        played(self.plans[owner], moves + [(word, value)])
        self.runs[name] = (owner, moves + [(word, value)])

    def edit_hear(self, name, ends):
        self.move(name, "hear", ends)

    def edit_do(self, name, events):
        self.move(name, "do", events)

    def edit_wait(self, name, ticks):
        self.move(name, "wait", ticks)


def some_edit(record, chance, plans):
    """An edit that can perhaps be made."""
    names = ["p", "q", "r", "s", "t", "u"]
    known = sorted(record.plans) if record.plans and chance.random() < 0.9 else names
    name = chance.choice(known)
    plan = record.plans.get(name) or chance.choice(plans)
    run_name = chance.choice(sorted(record.runs) if record.runs and chance.random() < 0.9 else names)
    kind = chance.choice(("plan", "bound", "bound", "step", "step", "rename", "drop", "run", "run") + ("move",) * 12)
    if kind == "plan" or not record.plans:
        if len(record.plans) < 2 or chance.random() < 0.3:
            return "plan", chance.choice(names), chance.choice(plans + [None])
        return "plan", name, plan.with_horizon(chance.randint(0, 9))
    if kind == "bound" and len(plan) > 1:
        first, second = chance.sample(plan.points, 2)
        return "bound", name, first, second, chance.choice((None, -1, 0, 2, 5, 1000))
    if kind == "step" and plan.steps:
        end, begin, least, most, delay = chance.choice(plan.steps)
        change = chance.randint(0, 3)
        if change == 0:
            most = least + chance.randint(0, 3)
        elif change == 1:
            delay = chance.choice((0, 1, None))
        elif change == 2:
            least = chance.randint(1, most)
        else:
            begin = chance.choice(("start",) + plan.events)
        return "step", name, end, begin, least, most, delay
    if kind == "rename":
        return "rename", chance.choice((name, run_name)), chance.choice(names)
    if kind == "drop":
        return "drop", chance.choice((name, run_name))
    if kind == "run" or not record.runs:
        return "run", chance.choice(names), name
    return some_move(record, chance, run_name)


def some_move(record, chance, name):
    """A move of a run that can perhaps be made."""
    if name not in record.runs:
        return "wait", name, 1
    run = played(record.plans[record.runs[name][0]], record.runs[name][1])
    now = [end for end, (first, _) in run.expected().items() if first == run.tick]
    must = [end for end, (_, last) in run.expected().items() if last == run.tick]
    if not run.is_behind and (must or chance.random() < 0.4):
        ends = must + [end for end in now if end not in must and chance.random() < 0.5]
        return "hear", name, tuple(ends)
    if run.left and chance.random() < 0.5:
        return "do", name, tuple(chance.sample(run.left, chance.randint(1, len(run.left))))
    return "wait", name, chance.choice((1, 1, 1, 2))


def some_history(seed, many):
    """Drawn operations on a house: groups, undo, redo and memory, each for the record that it is drawn for."""
    chance = random.Random(seed)
    plans = [plan for plan in time_answers.some_plans(60, seed, horizon=9) if plan.steps or plan.events][:12]
    record = Record()
    for _ in range(many):
        kind = chance.random()
        if kind < 0.75:
            group = []
            scratch = Record()
            scratch.set_state(record.state())
            for _ in range(chance.choice((1, 1, 1, 2, 3))):
                edit = some_edit(scratch, chance, plans)
                group.append(edit)
                try:
                    scratch.edit(edit)
                except OWN:
                    break
            yield record, "apply", tuple(group)
        elif kind < 0.87:
            yield record, "undo", chance.choice((0, 1, 1, 1, 2, 3))
        elif kind < 0.97:
            yield record, "redo", chance.choice((0, 1, 1, 1, 2, 3))
        else:
            yield record, "memory", chance.choice((0, 1, 2, 5, 100, 100))
