"""Slow and plain reckonings of points 8 and 10 to 14 by the document's words, in sets, beside slow.py."""

from itertools import permutations

import slow
import slow_bounds


def lost_most(task, weights):
    weight_of = dict(weights)
    told = []
    for name, needs, bars, adds, strikes, _ in task[0]:
        lowered = 0
        for fact in strikes:
            weight = weight_of.get(fact, 0)
            if fact in needs:
                lowered += weight
            elif fact not in bars and weight > 0:
                lowered += weight
        for fact in adds:
            weight = weight_of.get(fact, 0)
            if fact in bars:
                lowered -= weight
            elif fact not in needs and weight < 0:
                lowered -= weight
        told.append((name, lowered))
    return tuple(told)


def worth(start, weights, state):
    return start + sum(weight for fact, weight in weights if fact in state)


def is_sound(task, start, weights):
    """Whether a start and weights, of the right kinds, are sound."""
    prices = {deed[0]: deed[5] for deed in task[0]}
    if any(lowered > prices[name] for name, lowered in lost_most(task, weights)):
        return False
    total = start
    for fact, weight in weights:
        total += weight if fact in task[2] else max(weight, 0)
    return total <= 0


def weight_bound(task, start, weights, state):
    return max(0, worth(start, weights, state)) if is_sound(task, start, weights) else None


def shows_never(task, paper):
    """Whether a paper, of one of the three forms and of the right kinds, is one of never."""
    word, told = paper
    begin, wish = frozenset(task[1]), set(task[2])
    if word == "facts":
        some = set(told)
        closed = all(some.issuperset(deed[3]) for deed in task[0] if some.issuperset(deed[1]))
        return some >= begin and not some >= wish and closed
    if word == "pairs":
        return slow_bounds.are_kept(task, told) and any(wish.issuperset(pair) for pair in told)
    states = {frozenset(state) for state in told}
    if begin not in states or any(state >= wish for state in states):
        return False
    return all(behind in states for state in states for _, _, behind in slow.steps(task, state))


def shows_bound(task, paper, bound):
    """Whether a paper, of one of the three forms and of the right kinds, is one of the bound."""
    if paper[0] == "cuts":
        total = slow_bounds.cut_bound(task, task[1], paper[1])
        return total is not None and total >= bound
    if paper[0] == "weights":
        return is_sound(task, *paper[1:]) and worth(*paper[1:], task[1]) >= bound
    table = {frozenset(state): number for state, number in paper[1]}
    if table.get(frozenset(task[1]), 0) < bound:
        return False
    for state, number in table.items():
        if state.issuperset(task[2]) and number != 0:
            return False
        for _, cost, behind in slow.steps(task, state):
            if table.get(behind, 0) + cost < number:
                return False
    return True


def states_along(task, begin, names):
    """The states along a row of names from the beginning, None if one of them can't be done."""
    states = [frozenset(begin)]
    for name in names:
        behind = [step[2] for step in slow.steps(task, states[-1]) if step[0] == name]
        if not behind:
            return None
        states.append(behind[0])
    return states


def leads(task, begin, names):
    states = states_along(task, begin, names)
    return states is not None and states[-1].issuperset(task[2])


def random_plan(task, chance, most=8):
    """A plan that is drawn by going about, None if none was come to."""
    state, names, found = frozenset(task[1]), [], None
    for _ in range(most + 1):
        if state.issuperset(task[2]):
            found = tuple(names)
        steps = slow.steps(task, state)
        if not steps:
            break
        name, _, state = chance.choice(steps)
        names.append(name)
    return found


def links(task, plan):
    deeds = {deed[0]: deed for deed in task[0]}
    told = []
    for place in range(len(plan) + 1):
        wanted = task[2] if place == len(plan) else deeds[plan[place]][1]
        for fact in wanted:
            givers = [at for at in range(place) if fact in deeds[plan[at]][3]]
            told.append((max(givers, default=-1), fact, place))
    return tuple(told)


def shortened(task, plan):
    left = list(plan)
    for at in range(len(plan) - 1, -1, -1):
        if leads(task, task[1], left[:at] + left[at + 1:]):
            del left[at]
    return tuple(left)


def order_count(task, plan):
    return sum(leads(task, task[1], [plan[at] for at in order]) for order in permutations(range(len(plan))))


def first_way(task, state):
    """The first of the cheapest ways from the state to the wish, by trying all; None if there is none."""
    least = slow.price_left(task, state)
    if least is None:
        return None
    return slow.plans_of_price((task[0], state, task[2]), least)[0]


def mended(task, plan, at, state):
    return plan[at:] if leads(task, state, plan[at:]) else first_way(task, state)


def safe_states(task, plan):
    deeds = {deed[0]: deed for deed in task[0]}
    found = [set(task[2])]
    for name in reversed(plan):
        found.insert(0, (found[0] - set(deeds[name][3])) | set(deeds[name][1]))
    return tuple(tuple(sorted(row)) for row in found)


def hints(task, state):
    """The names of the deeds by which a cheapest way goes on."""
    left = slow.price_left(task, state)
    if left is None or frozenset(state).issuperset(task[2]):
        return ()
    found = []
    for name, cost, behind in slow.steps(task, frozenset(state)):
        after = slow.price_left(task, behind)
        if after is not None and cost + after == left:
            found.append(name)
    return tuple(found)
