"""Weights of facts, by which a state has a worth that no deed lowers by more than its price (point 8)."""

from wishroads.errors import BadNumber
from wishroads.tasks import check_state, facts, is_ascending, is_number

MOST_WEIGHT = 1000


def is_weight(value, signs):
    """Whether any value is a pair of one of the signs and its weight."""
    if not isinstance(value, tuple) or len(value) != 2:
        return False
    fact, weight = value
    if not isinstance(fact, str) or fact not in signs:
        return False
    return is_number(weight, -MOST_WEIGHT, MOST_WEIGHT) and weight != 0


def is_weights(value, signs):
    """Whether any value is weights of the signs."""
    if not isinstance(value, tuple) or not all([is_weight(pair, signs) for pair in value]):
        return False
    return is_ascending([fact for fact, _ in value])


def lost_at(fact, weight, surely, never):
    """By how much striking the fact can lower the worth if the facts of surely stand, and those of never don't."""
    if fact in surely:
        return weight
    if fact in never:
        return 0
    return max(weight, 0)


def most_lost(deed, weights):
    """By how much the deed can lower the worth by the weights."""
    weighed = {fact: weight for fact, weight in weights}
    needs, bars, adds, strikes = deed[1:5]
    struck = [lost_at(fact, weighed.get(fact, 0), needs, bars) for fact in strikes]
    # To add a fact is to strike its absence, which weighs the contrary.
    added = [lost_at(fact, -weighed.get(fact, 0), bars, needs) for fact in adds]
    return sum(struck) + sum(added)


def lost_most(task, weights):
    """The tuple of (name, by how much it can lower the worth) of all deeds."""
    if not is_weights(weights, facts(task)):
        raise BadNumber()
    return tuple([(deed[0], most_lost(deed, weights)) for deed in task[0]])


def worth(start, weights, state):
    """The worth of the state by start and weights."""
    return start + sum([weight for fact, weight in weights if fact in state])


def is_sound(task, start, weights):
    """Whether any values are a start and weights that are sound."""
    signs = facts(task)
    if not is_number(start, -MOST_WEIGHT, MOST_WEIGHT) or not is_weights(weights, signs):
        return False
    if any([most_lost(deed, weights) > deed[5] for deed in task[0]]):
        return False
    # No state with the wish is worth more than one with all that is weighed above 0 besides.
    counted = [fact for fact, weight in weights if weight > 0 or fact in task[2]]
    return worth(start, weights, counted) <= 0


def weight_bound(task, start, weights, state):
    """The worth of the state, 0 if it is below, None for any start and weights that aren't sound."""
    if not is_sound(task, start, weights):
        return None
    check_state(task, state)
    return max(worth(start, weights, state), 0)
