"""Pasts: how a house has become what it is, and what can be undone and made again."""


class Past:
    """The groups in effect and those that were undone; a past never changes."""

    def __init__(self, stock, groups, earlier, later, before, most):
        self.stock = stock
        self.groups = groups
        # The stocks in front of the last groups, as far as these can be undone.
        self.earlier = earlier[max(0, len(earlier) - most):]
        # The groups that were undone, with the stocks behind them; the last one was undone last.
        self.later = later
        # The stock in front of the last change, or None.
        self.before = before
        self.most = most

    def with_group(self, group, stock):
        """The past in which a group was made, behind which there is this stock."""
        return Past(stock, self.groups + (group,), self.earlier + (self.stock,), (), self.stock, self.most)

    def undone(self):
        """The past in which the last group was undone."""
        later = self.later + ((self.groups[-1], self.stock),)
        return Past(self.earlier[-1], self.groups[:-1], self.earlier[:-1], later, self.stock, self.most)

    def redone(self):
        """The past in which the group that was undone last was made again."""
        group, stock = self.later[-1]
        earlier = self.earlier + (self.stock,)
        return Past(stock, self.groups + (group,), earlier, self.later[:-1], self.stock, self.most)

    def with_memory(self, most):
        """The past of which at most so many groups can be undone."""
        return Past(self.stock, self.groups, self.earlier, self.later, self.before, most)
