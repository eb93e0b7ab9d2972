"""Stocks: the plans and runs of a house at one moment."""

from heardlate.errors import UnknownName
from heardlate.runs.histories import moved_to


class Stock:
    """Plans and runs by their names, and for each run the name of its plan; a stock never changes."""

    def __init__(self, plan_by_name, run_by_name, owner_by_run):
        self.plan_by_name = plan_by_name
        self.run_by_name = run_by_name
        self.owner_by_run = owner_by_run

    def names(self):
        """The names of all plans and runs."""
        return list(self.plan_by_name) + list(self.run_by_name)

    def plan_called(self, name):
        """The plan with this name."""
        if not isinstance(name, str) or name not in self.plan_by_name:
            raise UnknownName(name)
        return self.plan_by_name[name]

    def run_called(self, name):
        """The run with this name."""
        if not isinstance(name, str) or name not in self.run_by_name:
            raise UnknownName(name)
        return self.run_by_name[name]

    def find_any(self, name):
        """The plan or the run with this name, or None."""
        if not isinstance(name, str):
            return None
        return self.plan_by_name.get(name, self.run_by_name.get(name, None))

    def with_plan(self, name, plan):
        """The stock with this plan under a name; its runs go on with it."""
        plans = {**self.plan_by_name, name: plan}
        runs = {}
        for run_name in self.run_by_name:
            run = self.run_by_name[run_name]
            runs[run_name] = moved_to(plan, run) if self.owner_by_run[run_name] == name else run
        return Stock(plans, runs, self.owner_by_run)

    def with_run(self, name, run, owner):
        """The stock with this run of a plan under a name."""
        runs = {**self.run_by_name, name: run}
        return Stock(self.plan_by_name, runs, {**self.owner_by_run, name: owner})

    def renamed_to(self, old, new):
        """The stock in which a plan or a run has another name."""
        plans = {new if name == old else name: self.plan_by_name[name] for name in self.plan_by_name}
        runs = {new if name == old else name: self.run_by_name[name] for name in self.run_by_name}
        owners = {}
        for name in self.owner_by_run:
            owner = self.owner_by_run[name]
            owners[new if name == old else name] = new if owner == old else owner
        return Stock(plans, runs, owners)

    def without_any(self, dropped):
        """The stock without a plan that has no runs, or without a run."""
        plans = {name: self.plan_by_name[name] for name in self.plan_by_name if name != dropped}
        runs = {name: self.run_by_name[name] for name in self.run_by_name if name != dropped}
        owners = {name: self.owner_by_run[name] for name in self.owner_by_run if name != dropped}
        return Stock(plans, runs, owners)

    def has_runs(self, name):
        """Whether some run belongs to the plan with this name."""
        return name in list(self.owner_by_run.values())
