"""Tasks in numbers, so that they are searched quickly: a fact is a bit, a state the sum of its facts' bits."""

from heapq import heappop, heappush

from wishroads.tasks import facts


class Chart:
    """A task in numbers."""

    def __init__(self, task):
        self.signs = facts(task)
        self.bits = {sign: 1 << at for at, sign in enumerate(self.signs)}
        deeds, begin, wish = task
        self.begin = self.number_of(begin)
        self.wish = self.number_of(wish)
        self.deeds = [self.deed_in_numbers(deed) for deed in deeds]

    def number_of(self, state):
        """The number of a state, or of any facts of the task."""
        return sum([self.bits[sign] for sign in state])

    def deed_in_numbers(self, deed):
        """The deed with numbers in place of facts, and what it keeps in place of what it strikes."""
        name, needs, bars, adds, strikes, cost = deed
        kept = [sign for sign in self.signs if sign not in strikes]
        rows = [self.number_of(row) for row in (needs, bars, adds, kept)]
        return (name, *rows, cost)

    def state_of(self, number):
        """The state with this number."""
        return tuple([sign for sign in self.signs if self.bits[sign] & number])

    def states_of(self, numbers):
        """The ascending tuple of the states with these numbers."""
        return tuple(sorted([self.state_of(number) for number in numbers]))

    def has_wish(self, number):
        """Whether the wish stands in the state with this number."""
        return (self.wish & number) == self.wish

    def moves(self, number):
        """The deeds that can be done, ascending, as (name, price, number behind the deed)."""
        return [
            (name, cost, (number & kept) | adds)
            for name, needs, bars, adds, kept, cost in self.deeds
            if (needs & number) == needs and not bars & number
        ]

    def roads(self, start):
        """From each number that can be come to from start to its moves."""
        found = {}
        waiting = [start]
        while waiting:
            number = waiting.pop()
            if number not in found:
                found[number] = self.moves(number)
                waiting.extend([move[2] for move in found[number]])
        return found


def least_prices(starts, roads):
    """From each number that can be come to from the starts to the least price of it, the cheapest first."""
    reckoned = {}
    queue = []
    for start in starts:
        heappush(queue, (0, start))
    while queue:
        paid, number = heappop(queue)
        if number not in reckoned:
            reckoned[number] = paid
            for _, cost, behind in roads[number]:
                if behind not in reckoned:
                    heappush(queue, (paid + cost, behind))
    return reckoned


def price_on(chart, start, roads):
    """The least price on the roads from start to the wish, None without a way."""
    prices = least_prices([start], roads)
    return min([prices[number] for number in prices if chart.has_wish(number)], default=None)


def turned(roads):
    """The same roads, each gone the other way."""
    back = {number: [] for number in roads}
    for number, moves in roads.items():
        for name, cost, behind in moves:
            back[behind].append((name, cost, number))
    return back


def prices_left(chart, roads):
    """From each number on the roads with a way to the wish to the least price left, the cheapest first."""
    return least_prices([number for number in roads if chart.has_wish(number)], turned(roads))


def cheapest_roads(chart):
    """From each number with a way to the wish to the moves of its cheapest ways, the nearest to the wish first."""
    roads = chart.roads(chart.begin)
    left = prices_left(chart, roads)
    return {
        number: [move for move in roads[number] if left.get(move[2]) == left[number] - move[1]]
        for number in left
    }
