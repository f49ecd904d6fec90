"""Plays: a task is gone through deed by deed (point 14)."""

from wishroads.charts import Chart, cheapest_roads, prices_left
from wishroads.errors import BadDeed, NothingBack


class Play:
    """A task that is played from its beginning on, with what is left to do at each state."""

    def __init__(self, task):
        # All is reckoned once, so that no call searches.
        self.chart = Chart(task)
        self.open_moves = self.chart.roads(self.chart.begin)
        self.best_moves = cheapest_roads(self.chart)
        self.left = prices_left(self.chart, self.open_moves)
        # Of each deed done its name, the price of the path up to it and the number behind it.
        self.trail = []

    def number(self):
        """The number of the state that stands now."""
        return self.trail[-1][2] if self.trail else self.chart.begin

    def do(self, name):
        """Do the deed of this name and return the state behind it."""
        if isinstance(name, str):
            for word, cost, behind in self.open_moves[self.number()]:
                if word == name:
                    self.trail.append((name, self.price() + cost, behind))
                    return self.state()
        raise BadDeed(None)

    def undo(self):
        """Take the last deed back and return its name."""
        if not self.trail:
            raise NothingBack()
        return self.trail.pop()[0]

    def state(self):
        """The state that stands now."""
        return self.chart.state_of(self.number())

    def path(self):
        """The tuple of the names of the deeds done."""
        return tuple([step[0] for step in self.trail])

    def price(self):
        """The price of the path."""
        return self.trail[-1][1] if self.trail else 0

    def open_deeds(self):
        """The ascending tuple of the names of the deeds that can be done now."""
        return tuple([move[0] for move in self.open_moves[self.number()]])

    def is_done(self):
        """Whether the wish stands."""
        return self.chart.has_wish(self.number())

    def price_left(self):
        """The least price from here to the wish, None without a way."""
        return self.left.get(self.number())

    def hints(self):
        """The ascending tuple of the names of the deeds by which a cheapest way goes on."""
        return tuple([move[0] for move in self.best_moves.get(self.number(), [])])

    def wasted(self):
        """By how much the path's price and the price left are more than the least price, None without a way."""
        left = self.price_left()
        if left is None:
            return None
        return self.price() + left - self.left[self.chart.begin]
