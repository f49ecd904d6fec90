"""Pairs of facts that never stand together, and the groups that they make (point 9)."""

from wishroads.charts import Chart
from wishroads.errors import BadFacts
from wishroads.tasks import facts, is_ascending, is_sign_row


def is_pair(value, signs):
    """Whether any value is a pair of the signs, the first not greater than the second."""
    if not isinstance(value, tuple) or len(value) != 2:
        return False
    if not all([is_sign_row(fact) and fact in signs for fact in value]):
        return False
    return value[0] <= value[1]


def is_pairs(value, signs):
    """Whether any value is an ascending tuple of unlike pairs of the signs."""
    if not isinstance(value, tuple) or not all([is_pair(pair, signs) for pair in value]):
        return False
    return is_ascending(value)


def numbers_of(chart, pairs):
    """The pairs in numbers: the sum of both facts' bits, the one bit for a fact with itself."""
    return [chart.bits[first] | chart.bits[second] for first, second in pairs]


def one_stands(pairs, number):
    """Whether one of the pairs, in numbers, stands in the state with this number."""
    return any([(pair & number) == pair for pair in pairs])


def brings(deed, pairs, pair):
    """Whether the deed, in numbers, brings about the pair if all the pairs are taken never to stand."""
    needs, bars, adds, kept = deed[1:5]
    rest = pair & ~adds
    if rest == pair or (pair & kept) != pair or rest & bars:
        return False
    return not one_stands(pairs, needs | rest)


def is_kept(chart, pairs, pair):
    """Whether the pair neither stands at the beginning nor is brought about by a deed."""
    if one_stands([pair], chart.begin):
        return False
    return not any([brings(deed, pairs, pair) for deed in chart.deeds])


def shows_apart(task, value):
    """Whether any value is pairs that are kept."""
    if not is_pairs(value, facts(task)):
        return False
    chart = Chart(task)
    pairs = numbers_of(chart, value)
    return all([is_kept(chart, pairs, pair) for pair in pairs])


def all_pairs(signs):
    """The ascending list of all pairs of the signs."""
    return [(first, second) for at, first in enumerate(signs) for second in signs[at:]]


def apart(task):
    """The greatest lot of pairs that are kept."""
    chart = Chart(task)
    told = all_pairs(chart.signs)
    changed = True
    while changed:
        pairs = numbers_of(chart, told)
        left = [row for row, pair in zip(told, pairs) if is_kept(chart, pairs, pair)]
        changed = len(left) < len(told)
        told = left
    return tuple(told)


def neighbours(chart, pairs):
    """From each fact's bit to the bits of those paired with it, none for a fact that is a pair with itself."""
    numbers = numbers_of(chart, pairs)
    alone = [bit for bit in chart.bits.values() if bit not in numbers]
    near = {bit: 0 for bit in chart.bits.values()}
    for bit in alone:
        near[bit] = sum([other for other in alone if other != bit and (bit | other) in numbers])
    return near


def is_group(near, number):
    """Whether two or more facts stand by this number, each two of them a pair, and none is a pair with them all."""
    members = [bit for bit in near if bit & number]
    if len(members) < 2 or not all([(number & ~near[bit]) == bit for bit in members]):
        return False
    return not any([(near[bit] & number) == number for bit in near])


def groups(task, pairs):
    """The ascending tuple of the groups of facts, each two of which are a pair, that are in no greater one."""
    if not is_pairs(pairs, facts(task)):
        raise BadFacts()
    chart = Chart(task)
    near = neighbours(chart, pairs)
    return chart.states_of([number for number in range(1 << len(chart.signs)) if is_group(near, number)])
