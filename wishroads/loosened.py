"""What can be had, and at what first prices, with bars and strikes left aside (point 5)."""

from wishroads.tasks import check_state, check_task


def mends(prices, deed):
    """Lower the prices of what the deed adds if its needs have prices; whether one is lower now."""
    if not all([fact in prices for fact in deed[1]]):
        return False
    cost = deed[5] + max([prices[fact] for fact in deed[1]], default=0)
    dearer = [fact for fact in deed[3] if fact not in prices or prices[fact] > cost]
    for fact in dearer:
        prices[fact] = cost
    return len(dearer) > 0


def prices_had(task, state):
    """From each fact that can be had to its first price."""
    check_task(task)
    check_state(task, state)
    prices = {fact: 0 for fact in state}
    changed = True
    while changed:
        changed = any([mends(prices, deed) for deed in task[0]])
    return prices


def had(task, state):
    """The ascending tuple of the facts that can stand sooner or later from the state."""
    return tuple(sorted(prices_had(task, state)))


def first_prices(task, state):
    """The ascending tuple of (fact, first price) of the facts that can be had."""
    return tuple(sorted(prices_had(task, state).items()))


def first_price(task, state):
    """The greatest first price of the wish's facts, 0 for an empty wish, None if one of them can't be had."""
    prices = prices_had(task, state)
    if not all([fact in prices for fact in task[2]]):
        return None
    return max([prices[fact] for fact in task[2]], default=0)
