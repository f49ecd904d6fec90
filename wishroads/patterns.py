"""Least prices with a part of the task left aside: bars and strikes, or facts (points 5 and 6)."""

from wishroads.charts import Chart, price_on
from wishroads.errors import BadFacts
from wishroads.searching import least_price
from wishroads.tasks import check_state, check_task, facts, is_facts_among, some_stand


def loosened_price(task, state):
    """The least price from the state to the wish with bars and strikes left aside, None without a way."""
    check_task(task)
    check_state(task, state)
    deeds = [(deed[0], deed[1], (), deed[3], (), deed[5]) for deed in task[0]]
    return least_price((tuple(deeds), state, task[2]))


def only(row, some):
    """The facts of the row that are among some."""
    return tuple([fact for fact in row if fact in some])


def looked_at(task, some, state):
    """The task from the state to the wish if some facts alone are looked at."""
    deeds = []
    for deed in task[0]:
        rows = [only(row, some) for row in deed[1:5]]
        deeds.append((deed[0], *rows, deed[5]))
    return (tuple(deeds), only(state, some), only(task[2], some))


def pattern_price(task, some, state):
    """The least price from the state to the wish by some facts alone, None without a way."""
    if not is_facts_among(some, facts(task)):
        raise BadFacts()
    check_state(task, state)
    return least_price(looked_at(task, some, state))


def check_patterns(task, patterns):
    """Raise BadFacts for a value that is no tuple of facts of the task."""
    signs = facts(task)
    if not isinstance(patterns, tuple) or not all([is_facts_among(some, signs) for some in patterns]):
        raise BadFacts()


def price_at(task, prices):
    """The least price of a plan if the deeds have these prices, which may be 0; None if there is no plan."""
    chart = Chart(task)
    roads = {}
    for number, moves in chart.roads(chart.begin).items():
        roads[number] = [(name, prices[name], behind) for name, _, behind in moves]
    return price_on(chart, chart.begin, roads)


def shared_bound(task, patterns, state):
    """The sum of the least prices by the patterns, each deed's price counted once; None without a way by one."""
    check_patterns(task, patterns)
    check_state(task, state)
    total = 0
    prices = {deed[0]: deed[5] for deed in task[0]}
    # A pattern that comes again has only deeds whose prices have counted, so it costs nothing more.
    unlike = {row: True for row in patterns}
    for some in unlike:
        cost = price_at(looked_at(task, some, state), prices)
        if cost is None:
            return None
        total += cost
        for deed in task[0]:
            if some_stand(deed[3], some) or some_stand(deed[4], some):
                prices[deed[0]] = 0
    return total
