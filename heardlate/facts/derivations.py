"""Derivations: all that follows from some facts by the rules, with the rows by which it was derived."""

from heardlate.base.arcs import numbers_paper
from heardlate.facts.facts import given_facts


class Derivation:
    """The numbers that follow from begun facts; nothing more is derived once there is a ring."""

    def __init__(self, plan, begun):
        points = plan.points
        many = len(points)
        places = {points[place]: place for place in range(many)}
        columns = {plan.ends[column]: column for column in range(len(plan.ends))}
        self._points = points
        self._ends = plan.ends
        self._steps = []
        for end, begin, least, most, delay in plan.steps:
            self._steps.append((places[end], places[begin], least, most, delay))
        self._plain = [[None] * many for _ in points]
        self._plain_rows = [[None] * many for _ in points]
        self._late = [[None] * len(plan.ends) for _ in points]
        self._late_rows = [[None] * len(plan.ends) for _ in points]
        self._rows = []
        self._ring = None
        for word, first, second in begun:
            value = begun[(word, first, second)]
            if word == "plain":
                self._put_plain(places[first], places[second], value, "given", ())
            else:
                self._put_late(places[first], columns[second], value, "given", ())
        self._derive()

    def ring(self):
        """Indices of rows that form a ring; None if there is no ring."""
        return self._ring

    def rows(self):
        """The rows (fact, value, rule, sources) in the order in which they were derived."""
        names = {"plain": self._points, "late": self._ends}
        rows = []
        for word, first, second, value, rule, sources in self._rows:
            rows.append(((word, self._points[first], names[word][second]), value, rule, sources))
        return tuple(rows)

    def table(self):
        """The table of the last numbers."""
        return self._named(self._plain, self._points), self._named(self._late, self._ends)

    def _named(self, numbers, seconds):
        """A dict from pairs of names, ascending, to these numbers."""
        found = {}
        for first, row in zip(self._points, numbers):
            for second, number in zip(seconds, row):
                found[(first, second)] = number
        return {pair: found[pair] for pair in sorted(found)}

    def _derive(self):
        self._chain_all()
        if self._ring is None:
            self._reach_ends()
        many = -1
        # Without a ring no number can sink for ever, so some round derives nothing.
        while self._ring is None and many < len(self._rows):
            many = len(self._rows)
            self._look_for_ring()
            for column in range(len(self._steps)):
                self._use_step(column)

    def _chain_all(self):
        """Uses the rule chain until nothing changes."""
        for middle in range(len(self._points)):
            for first in range(len(self._points)):
                if first != middle and self._plain[first][middle] is not None:
                    self._chain_through(first, middle)
            if self._ring is not None:
                return

    def _chain_through(self, first, middle):
        """Uses the rule chain for two points and all others."""
        numbers, more = self._plain[first], self._plain[middle]
        value, source = numbers[middle], self._plain_rows[first][middle]
        for last in range(len(self._points)):
            if more[last] is not None and (numbers[last] is None or value + more[last] < numbers[last]):
                self._put_plain(first, last, value + more[last], "chain", (source, self._plain_rows[middle][last]))

    def _reach_ends(self):
        """Uses the rules late and through until nothing changes."""
        places = range(len(self._points))
        for column, (end, _, _, most, _) in enumerate(self._steps):
            for first in places:
                value = self._plain[first][end] - most
                if self._late[first][column] is None or value < self._late[first][column]:
                    self._put_late(first, column, value, "late", (self._plain_rows[first][end],))
            for first in places:
                for middle in places:
                    self._go_through(first, middle, column)

    def _go_through(self, first, middle, column):
        """Uses the rule through."""
        value = self._plain[first][middle] + self._late[middle][column]
        if value < self._late[first][column]:
            sources = (self._plain_rows[first][middle], self._late_rows[middle][column])
            self._put_late(first, column, value, "through", sources)

    def _use_step(self, column):
        """Uses the rules early and release for one step."""
        end, begin, least, _, delay = self._steps[column]
        for last in range(len(self._points)):
            value = self._plain[end][last]
            if last != end and (delay is None or value < delay):
                self._lower_plain(begin, last, least + value, "early", self._plain_rows[end][last])
        for other in range(len(self._steps)):
            value = self._late[end][other]
            if other != column and (delay is None or value < delay):
                self._lower_late(begin, other, least + value, self._late_rows[end][other])
        for first in range(len(self._points)):
            value = self._late[first][column]
            if delay is not None:
                value = max(value, -(least + delay))
            if first != end:
                self._lower_plain(first, begin, value, "release", self._late_rows[first][column])

    def _lower_plain(self, first, second, value, rule, source):
        """Puts in a smaller plain number, and what follows from it by chain and through."""
        if self._ring is not None or value >= self._plain[first][second]:
            return
        self._put_plain(first, second, value, rule, (source,))
        touched = [first]
        for before in range(len(self._points)):
            numbers = self._plain[before]
            if before != first and numbers[first] + value < numbers[second]:
                sources = (self._plain_rows[before][first], self._plain_rows[first][second])
                self._put_plain(before, second, numbers[first] + value, "chain", sources)
                touched.append(before)
        for before in touched:
            self._chain_through(before, second)
            # The late numbers of the second point have taken in those of all points behind it.
            for column in range(len(self._steps)):
                self._go_through(before, second, column)

    def _lower_late(self, first, column, value, source):
        """Puts in a smaller late number by the rule early, and what follows from it by through."""
        if self._ring is not None or value >= self._late[first][column]:
            return
        self._put_late(first, column, value, "early", (source,))
        for before in range(len(self._points)):
            self._go_through(before, first, column)

    def _look_for_ring(self):
        """Looks for a ring of late facts; by through they have taken in all plain ones that could lie between them."""
        arcs = []
        rows = []
        for begin in sorted({step[1] for step in self._steps}):
            for column, step in enumerate(self._steps):
                arcs.append((self._points[begin], self._points[step[1]], self._late[begin][column]))
                rows.append(self._late_rows[begin][column])
        word, shown = numbers_paper(tuple(arcs))
        if word == "ring":
            self._ring = tuple([rows[index] for index in shown])

    def _put_plain(self, first, second, value, rule, sources):
        self._plain[first][second] = value
        self._plain_rows[first][second] = len(self._rows)
        if first == second and value < 0 and self._ring is None:
            self._ring = (len(self._rows),)
        self._rows.append(("plain", first, second, value, rule, sources))

    def _put_late(self, first, column, value, rule, sources):
        self._late[first][column] = value
        self._late_rows[first][column] = len(self._rows)
        self._rows.append(("late", first, column, value, rule, sources))


def derive(plan):
    """All that follows from the given facts of a plan."""
    return Derivation(plan, given_facts(plan))
