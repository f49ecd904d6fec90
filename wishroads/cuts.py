"""Cuts between a state and the wish, by which no way is cheaper than their prices together (point 7)."""

from wishroads.errors import BadNumber
from wishroads.loosened import first_price, first_prices
from wishroads.tasks import all_stand, check_state, facts, is_ascending, is_facts_among, is_number

MOST_ROW_PRICE = 1000
MOST_BOUND = 1000


def crosses(deed, some):
    """Whether the deed's needs are all in some and its adds aren't."""
    return all_stand(deed[1], some) and not all_stand(deed[3], some)


def names_across(task, some):
    """The ascending tuple of the names of the deeds that cross from some facts to others."""
    return tuple([deed[0] for deed in task[0] if crosses(deed, some)])


def is_names(task, value):
    """Whether any value is an ascending tuple of unlike names of deeds."""
    if not isinstance(value, tuple) or not all([isinstance(name, str) for name in value]):
        return False
    return is_ascending(value) and all_stand(value, [deed[0] for deed in task[0]])


def is_cut(task, signs, state, value):
    """Whether any value is a cut between the state and the wish; signs are the facts of the task."""
    if not isinstance(value, tuple) or len(value) != 3:
        return False
    names, some, cost = value
    if not is_names(task, names) or not is_facts_among(some, signs) or not is_number(cost, 1, MOST_ROW_PRICE):
        return False
    if not all_stand(state, some) or all_stand(task[2], some):
        return False
    return all_stand(names_across(task, some), names)


def is_paid(deed, rows):
    """Whether the prices of the rows with the deed's name add up to at most its own."""
    return sum([cost for names, _, cost in rows if deed[0] in names]) <= deed[5]


def cut_bound(task, state, value):
    """The sum of the prices of the cuts, None for any value that isn't cuts between the state and the wish."""
    signs = facts(task)
    check_state(task, state)
    if not isinstance(value, tuple) or not all([is_cut(task, signs, state, row) for row in value]):
        return None
    if not all([is_paid(deed, value) for deed in task[0]]):
        return None
    return sum([row[2] for row in value])


def cuts(task, state):
    """Cuts whose sum is the first price, None if the wish can't be had with bars and strikes left aside."""
    told = first_prices(task, state)
    top = first_price(task, state)
    if top is None:
        return None
    levels = sorted(set([0, *[cost for _, cost in told if cost <= top]]))
    rows = []
    # What a deed adds is dearer than its needs by its price at most: it crosses no more levels than that.
    for low, high in zip(levels, levels[1:]):
        some = tuple([fact for fact, cost in told if cost <= low])
        rows.append((names_across(task, some), some, high - low))
    return tuple(rows)


def shows_cuts(task, state, value, bound):
    """Whether any value is cuts between the state and the wish with a sum of at least bound."""
    total = cut_bound(task, state, value)
    if not is_number(bound, 0, MOST_BOUND):
        raise BadNumber()
    return total is not None and total >= bound
