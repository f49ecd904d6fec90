"""Papers that there is no plan, or none cheaper than a bound, checked without a search (points 10 to 12)."""

from wishroads.charts import Chart, prices_left
from wishroads.cuts import cut_bound, names_across
from wishroads.errors import BadNumber
from wishroads.pairs import shows_apart
from wishroads.searching import first_plan, has_plan, states_met
from wishroads.tasks import all_stand, check_task, facts, is_ascending, is_facts_among, is_number, is_plan, price
from wishroads.weights import is_sound, worth

MOST_BOUND = 100000


def begins_with(value, word, many):
    """Whether any value is a tuple of so many items, the first of them this word."""
    if not isinstance(value, tuple) or len(value) != many:
        return False
    return isinstance(value[0], str) and value[0] == word


def shows_never_by_facts(task, value):
    """Whether any value is facts that hold all that can come, but not all of the wish."""
    if not is_facts_among(value, facts(task)):
        return False
    if not all_stand(task[1], value) or all_stand(task[2], value):
        return False
    return len(names_across(task, value)) == 0


def shows_never_by_pairs(task, value):
    """Whether any value is pairs that are kept, one of them in the wish."""
    return shows_apart(task, value) and any([all_stand(pair, task[2]) for pair in value])


def is_states(value, signs):
    """Whether any value is an ascending tuple of unlike states of these signs."""
    if not isinstance(value, tuple) or not all([is_facts_among(state, signs) for state in value]):
        return False
    return is_ascending(value)


def shows_never_by_states(task, value):
    """Whether any value is states with the beginning, without the wish, which no deed leads out of."""
    if not is_states(value, facts(task)):
        return False
    chart = Chart(task)
    numbers = {chart.number_of(state): True for state in value}
    if chart.begin not in numbers or any([chart.has_wish(number) for number in numbers]):
        return False
    return all([move[2] in numbers for number in numbers for move in chart.moves(number)])


def shows_never(task, value):
    """Whether any value is a paper of never."""
    check_task(task)
    if begins_with(value, "facts", 2):
        return shows_never_by_facts(task, value[1])
    if begins_with(value, "pairs", 2):
        return shows_never_by_pairs(task, value[1])
    if begins_with(value, "states", 2):
        return shows_never_by_states(task, value[1])
    return False


def never_paper(task):
    """A paper of never, None if there is a plan."""
    if has_plan(task):
        return None
    return ("states", states_met(task))


def shows_bound_by_cuts(task, value, bound):
    """Whether any value is cuts between the beginning and the wish with a sum of at least bound."""
    total = cut_bound(task, task[1], value)
    return total is not None and total >= bound


def shows_bound_by_weights(task, start, weights, bound):
    """Whether any values are a start and weights that are sound, the beginning worth at least bound by them."""
    # The worth counts here even if it is below 0, for which weight_bound tells 0.
    return is_sound(task, start, weights) and worth(start, weights, task[1]) >= bound


def is_row(value, signs):
    """Whether any value is a pair of a state of these signs and its number in a table."""
    if not isinstance(value, tuple) or len(value) != 2:
        return False
    return is_facts_among(value[0], signs) and is_number(value[1], 0, MOST_BOUND)


def is_table(value, signs):
    """Whether any value is an ascending tuple of rows of unlike states."""
    if not isinstance(value, tuple) or not all([is_row(row, signs) for row in value]):
        return False
    return is_ascending([state for state, _ in value])


def is_right(chart, table, number):
    """Whether the table gives the state with this number no more than it may have."""
    least = table[number]
    if chart.has_wish(number) and least > 0:
        return False
    return all([table.get(behind, 0) + cost >= least for _, cost, behind in chart.moves(number)])


def shows_bound_by_table(task, value, bound):
    """Whether any value is a table by which the price left at the beginning is at least bound."""
    if not is_table(value, facts(task)):
        return False
    chart = Chart(task)
    table = {chart.number_of(state): least for state, least in value}
    return table.get(chart.begin, 0) >= bound and all([is_right(chart, table, number) for number in table])


def shows_bound(task, value, bound):
    """Whether any value is a paper of the bound."""
    check_task(task)
    if not is_number(bound, 0, MOST_BOUND):
        raise BadNumber()
    if begins_with(value, "cuts", 2):
        return shows_bound_by_cuts(task, value[1], bound)
    if begins_with(value, "weights", 3):
        return shows_bound_by_weights(task, value[1], value[2], bound)
    if begins_with(value, "table", 2):
        return shows_bound_by_table(task, value[1], bound)
    return False


def bound_paper(task):
    """A paper of the least price as bound, None if there is no plan."""
    chart = Chart(task)
    roads = chart.roads(chart.begin)
    left = prices_left(chart, roads)
    if chart.begin not in left:
        return None
    # No state needs more than the beginning has, and those without a way may have as much.
    most = left[chart.begin]
    rows = [(chart.state_of(number), min(left.get(number, most), most)) for number in roads]
    return ("table", tuple(sorted(rows)))


def solved(task):
    """A plan of the least price and a paper of its price as bound, or a paper of never."""
    names = first_plan(task)
    if names is None:
        return ("never", never_paper(task))
    return ("plan", names, bound_paper(task))


def shows_plan(task, names, paper):
    """Whether any values are a plan and a paper of its price as bound."""
    if not is_plan(task, names):
        return False
    paid = price(task, names)
    # There is no paper of a greater bound.
    return paid <= MOST_BOUND and shows_bound(task, paper, paid)


def shows_solved(task, value):
    """Whether any value is a plan with a paper that none is cheaper, or a paper of never."""
    check_task(task)
    if begins_with(value, "plan", 3):
        return shows_plan(task, value[1], value[2])
    if begins_with(value, "never", 2):
        return shows_never(task, value[1])
    return False
