"""What comes of searching the states of a task (point 4)."""

from wishroads.charts import Chart, cheapest_roads, least_prices, price_on, prices_left
from wishroads.errors import TooMany
from wishroads.tasks import check_state, check_task

MOST_PLANS = 1000


def states_met(task):
    """The ascending tuple of the states that can be come to from the beginning."""
    chart = Chart(task)
    return chart.states_of(chart.roads(chart.begin))


def price_left(task, state):
    """The least price from the state to the wish, None without a way."""
    chart = Chart(task)
    check_state(task, state)
    start = chart.number_of(state)
    return price_on(chart, start, chart.roads(start))


def least_price(task):
    """The least price of a plan, None if there is none."""
    check_task(task)
    return price_left(task, task[1])


def first_plan(task):
    """The first of the plans of least price, None if there is no plan."""
    chart = Chart(task)
    cheapest = cheapest_roads(chart)
    if chart.begin not in cheapest:
        return None
    names = []
    number = chart.begin
    while cheapest[number]:
        name, _, number = cheapest[number][0]
        names.append(name)
    return tuple(names)


def ways_counted(cheapest, left_out):
    """From each number to how many of its cheapest ways do without the deed called left_out."""
    counts = {}
    for number, moves in cheapest.items():
        counts[number] = 1
        if moves:
            counts[number] = sum([counts[move[2]] for move in moves if move[0] != left_out])
    return counts


def plan_count(task):
    """How many plans of least price there are."""
    chart = Chart(task)
    return ways_counted(cheapest_roads(chart), None).get(chart.begin, 0)


def plans_along(cheapest, start):
    """The ascending list of the cheapest ways from start."""
    plans = []
    names = []
    waiting = [(0, None, start)]
    while waiting:
        depth, name, number = waiting.pop()
        if depth:
            names[depth - 1:] = [name]
        # The last move waits at the bottom, so that the ways come ascending.
        waiting.extend([(depth + 1, move[0], move[2]) for move in cheapest[number][::-1]])
        if not cheapest[number]:
            plans.append(tuple(names))
    return plans


def cheapest_plans(task):
    """The ascending tuple of the plans of least price."""
    chart = Chart(task)
    cheapest = cheapest_roads(chart)
    many = ways_counted(cheapest, None).get(chart.begin, 0)
    if many > MOST_PLANS:
        raise TooMany(MOST_PLANS)
    if many == 0:
        return ()
    return tuple(plans_along(cheapest, chart.begin))


def names_of_first_plan(task):
    """The ascending list of the names of the deeds in the first plan, [] if there is no plan."""
    plan = first_plan(task)
    if plan is None:
        return []
    return sorted(set(plan))


def always_done(task):
    """The ascending tuple of the names of the deeds that are in all plans of least price."""
    names = names_of_first_plan(task)
    chart = Chart(task)
    cheapest = cheapest_roads(chart)
    return tuple([name for name in names if ways_counted(cheapest, name)[chart.begin] == 0])


def has_plan(task):
    """Whether there is a plan."""
    chart = Chart(task)
    return any([chart.has_wish(number) for number in chart.roads(chart.begin)])


def must_deeds(task):
    """The ascending tuple of the names of the deeds that are in all plans."""
    names = names_of_first_plan(task)
    deeds, begin, wish = task
    without = {name: tuple([deed for deed in deeds if deed[0] != name]) for name in names}
    return tuple([name for name in names if not has_plan((without[name], begin, wish))])


def dead_ends(task):
    """The ascending tuple of the states met from which there is no way to the wish."""
    chart = Chart(task)
    roads = chart.roads(chart.begin)
    left = prices_left(chart, roads)
    return chart.states_of([number for number in roads if number not in left])


def greatest_price(task):
    """The greatest least price from the beginning to a state met, and the first state with it."""
    chart = Chart(task)
    prices = least_prices([chart.begin], chart.roads(chart.begin))
    most = max(list(prices.values()))
    states = chart.states_of([number for number in prices if prices[number] == most])
    return (most, states[0])
