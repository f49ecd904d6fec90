"""What is in a plan: its links, its orders, what is needless in it, how it is mended (point 13)."""

from wishroads.charts import Chart
from wishroads.errors import BadPlan, TooMany
from wishroads.searching import first_plan
from wishroads.tasks import all_stand, altered, check_state, is_number, is_plan, run, some_stand

MOST_PLACES = 10


def deeds_along(task, plan):
    """The list of the deeds of the plan; BadPlan for a value that is no plan."""
    if not is_plan(task, plan):
        raise BadPlan()
    named = {deed[0]: deed for deed in task[0]}
    return [named[name] for name in plan]


def links_at(givers, wanted, place):
    """The links of the wanted facts at a place; givers has the last place ahead that adds a fact."""
    return [(givers.get(fact, -1), fact, place) for fact in wanted]


def links(task, plan):
    """The tuple of (giver, fact, place) for each need of each place, and of the wish at the end."""
    told = []
    givers = {}
    deeds = deeds_along(task, plan)
    for place, deed in enumerate(deeds):
        told.extend(links_at(givers, deed[1], place))
        for fact in deed[3]:
            givers[fact] = place
    told.extend(links_at(givers, task[2], len(deeds)))
    return tuple(told)


def shortened(task, plan):
    """What is left when each deed, from the last to the first, is left out where a plan is left without it."""
    deeds = deeds_along(task, plan)
    states = run(task, plan)
    kept = []
    # What is kept leads to the wish from just those states in which all of needs stands and none of bars.
    needs, bars = task[2], ()
    for place in reversed(range(len(deeds))):
        if not all_stand(needs, states[place]) or some_stand(bars, states[place]):
            deed = deeds[place]
            needs = altered(needs, deed[3], deed[1])
            bars = altered(bars, deed[4], deed[2])
            kept.append(deed[0])
    return tuple(kept[::-1])


def counts_behind(plan, roads, counts):
    """From (places done, number) to how many orders come there, when one more place is done."""
    found = {}
    for (places, number), many in counts.items():
        for place, name in enumerate(plan):
            behind = roads[number].get(name)
            if behind is not None and not places & (1 << place):
                there = (places | (1 << place), behind)
                found[there] = found.get(there, 0) + many
    return found


def order_count(task, plan):
    """In how many orders the places of the plan, of at most 10 deeds, are a plan."""
    if len(deeds_along(task, plan)) > MOST_PLACES:
        raise TooMany(MOST_PLACES)
    chart = Chart(task)
    roads = {}
    for number, moves in chart.roads(chart.begin).items():
        roads[number] = {name: behind for name, _, behind in moves}
    counts = {(0, chart.begin): 1}
    for _ in plan:
        counts = counts_behind(plan, roads, counts)
    return sum([many for (_, number), many in counts.items() if chart.has_wish(number)])


def mended(task, plan, at, state):
    """The rest of the plan from place at on if it leads from the state to the wish, else the first cheapest way."""
    most = len(deeds_along(task, plan))
    if not is_number(at, 0, most):
        raise BadPlan()
    check_state(task, state)
    onward = (task[0], state, task[2])
    rest = plan[at:]
    if is_plan(onward, rest):
        return rest
    return first_plan(onward)


def safe_states(task, plan):
    """The tuple of what must stand at each place, and at the end, so that the needs of what is left are met."""
    deeds = deeds_along(task, plan)
    found = [task[2]]
    for deed in deeds[::-1]:
        found.append(altered(found[-1], deed[3], deed[1]))
    return tuple(found[::-1])
