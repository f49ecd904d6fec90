"""Slow and plain reckonings of points 5, 6, 7 and 9 by the document's words, in sets, beside slow.py."""

from itertools import chain, combinations

import slow

ENDLESS = 500


def facts_of(task):
    return sorted({fact for deed in task[0] for row in deed[1:5] for fact in row} | {*task[1], *task[2]})


def subsets(items):
    """All tuples of items, each in the sequence of the items."""
    return chain.from_iterable(combinations(items, many) for many in range(len(items) + 1))


def some_states(task, chance, many=4):
    """The beginning and some states drawn at random."""
    signs = facts_of(task)
    drawn = [tuple(sorted(chance.sample(signs, chance.randint(0, len(signs))))) for _ in range(many)]
    return [task[1], *drawn]


def loosened(task):
    """The task with bars and strikes left aside."""
    return (tuple((deed[0], deed[1], (), deed[3], (), deed[5]) for deed in task[0]), task[1], task[2])


def had(task, state):
    """All facts of all states that can be come to with bars and strikes left aside."""
    return tuple(sorted(frozenset().union(*slow.prices_from(loosened(task), frozenset(state)))))


def first_prices(task, state):
    """The least numbers that are right, from below: those that grow without end are of facts that can't be had."""
    prices = {fact: 0 for fact in facts_of(task)}
    while True:
        now = {}
        for fact in prices:
            ways = [deed[5] + max([prices[need] for need in deed[1]], default=0)
                    for deed in task[0] if fact in deed[3]]
            now[fact] = 0 if fact in state else min([ENDLESS, *ways])
        if now == prices:
            return tuple((fact, prices[fact]) for fact in sorted(prices) if prices[fact] < ENDLESS)
        prices = now


def first_price(task, state):
    prices = dict(first_prices(task, state))
    if not set(task[2]) <= set(prices):
        return None
    return max([0] + [prices[fact] for fact in task[2]])


def loosened_price(task, state):
    return slow.price_left(loosened(task), state)


def struck(task, some):
    """The task with all but some facts struck from the deeds and the wish; rows are sets here."""
    some = frozenset(some)
    deeds = tuple((deed[0], *[some & set(row) for row in deed[1:5]], deed[5]) for deed in task[0])
    return (deeds, some & set(task[1]), some & set(task[2]))


def pattern_price(task, some, state):
    return slow.price_left(struck(task, some), set(some) & set(state))


def shared_bound(task, patterns, state):
    total = 0
    for at, some in enumerate(patterns):
        deeds = []
        for deed, less in zip(task[0], struck(task, some)[0]):
            where = [at for at, row in enumerate(patterns) if set(row) & {*deed[3], *deed[4]}]
            deeds.append(less[:5] + (deed[5] if where[:1] == [at] else 0,))
        cost = slow.price_left((deeds, None, set(some) & set(task[2])), set(some) & set(state))
        if cost is None:
            return None
        total += cost
    return total


def cut_bound(task, state, rows):
    """The sum of the rows' prices, None if they aren't cuts; rows are of the right kinds here."""
    paid = {deed[0]: 0 for deed in task[0]}
    for names, some, cost in rows:
        if not set(names) <= set(paid) or list(names) != sorted(set(names)):
            return None
        if not set(some) <= set(facts_of(task)) or list(some) != sorted(set(some)):
            return None
        if set(state) - set(some) or not set(task[2]) - set(some) or not 1 <= cost <= 1000:
            return None
        for deed in task[0]:
            if not set(deed[1]) - set(some) and set(deed[3]) - set(some) and deed[0] not in names:
                return None
        for name in names:
            paid[name] += cost
    if any(paid[deed[0]] > deed[5] for deed in task[0]):
        return None
    return sum(cost for _, _, cost in rows)


def all_pairs(task):
    signs = facts_of(task)
    return [(first, second) for first in signs for second in signs if first <= second]


def told(pairs, signs):
    """Whether two of the signs, or one with itself, are one of the pairs."""
    return any(set(pair) <= set(signs) for pair in pairs)


def brings(deed, pairs, pair):
    _, needs, bars, adds, strikes, _ = deed
    if told(pairs, needs):
        return False
    if not set(pair) & set(adds) or set(pair) & set(strikes):
        return False
    if any(fact in bars for fact in pair if fact not in adds):
        return False
    return not told(pairs, set(needs) | {fact for fact in pair if fact not in adds})


def are_kept(task, pairs):
    if told(pairs, task[1]):
        return False
    return not any(brings(deed, pairs, pair) for deed in task[0] for pair in pairs)


def apart(task):
    """All pairs of all lots that are kept, by trying all lots."""
    found = set()
    for lot in subsets(all_pairs(task)):
        if not set(lot) <= found and are_kept(task, lot):
            found.update(lot)
    return tuple(sorted(found))


def groups(task, pairs):
    found = []
    for row in subsets([sign for sign in facts_of(task) if (sign, sign) not in pairs]):
        if len(row) > 1 and all(pair in pairs for pair in combinations(row, 2)):
            found.append(row)
    return tuple(sorted(row for row in found if not any(set(row) < set(other) for other in found)))
