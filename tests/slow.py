"""Slow and plain reckonings, in other ways than the program's, with which its answers are compared."""

import random
import re
from itertools import product


def random_task(seed):
    """A task of few facts and deeds, often without a plan or with several of the least price."""
    chance = random.Random(seed)
    signs = [chr(97 + at) for at in range(chance.randint(1, 5))]

    def some(most):
        return set(chance.sample(signs, chance.randint(0, min(most, len(signs)))))

    deeds = []
    for at in range(chance.randint(0, 7)):
        needs, adds = some(2), some(2)
        bars, strikes = some(1) - needs, some(2) - adds
        rows = [tuple(sorted(row)) for row in (needs, bars, adds, strikes)]
        deeds.append((f"d{at}", *rows, chance.randint(1, 3)))
    return (tuple(deeds), tuple(sorted(some(2))), tuple(sorted(some(3))))


def steps(task, state):
    """The (name, price, state behind) of the deeds that can be done; states are frozensets here."""
    found = []
    for name, needs, bars, adds, strikes, cost in task[0]:
        if state.issuperset(needs) and state.isdisjoint(bars):
            found.append((name, cost, (state - set(strikes)) | set(adds)))
    return found


def prices_from(task, start):
    """From each state that can be come to from start to its least price, by mending prices until none is less."""
    prices = {start: 0}
    changed = True
    while changed:
        changed = False
        for state in list(prices):
            for _, cost, behind in steps(task, state):
                if prices[state] + cost < prices.get(behind, 10 ** 9):
                    prices[behind] = prices[state] + cost
                    changed = True
    return prices


def price_left(task, state):
    prices = prices_from(task, frozenset(state))
    return min([prices[met] for met in prices if met.issuperset(task[2])], default=None)


def plans_of_price(task, most):
    """All plans of just this price that meet the wish at the end, by trying all rows of deeds."""
    found = []

    def go_on(state, names, paid):
        if paid == most and state.issuperset(task[2]):
            found.append(tuple(names))
        for name, cost, behind in steps(task, state):
            if paid + cost <= most:
                go_on(behind, names + [name], paid + cost)

    go_on(frozenset(task[1]), [], 0)
    return sorted(found)


def without(task, name):
    return (tuple(deed for deed in task[0] if deed[0] != name), task[1], task[2])


WORD = "[a-z][a-z0-9]{0,7}"
ORDER = ["kind", "fact", "deed", "needs", "bars", "adds", "strikes", "begin", "wish"]


def first_wrong(text):
    """The number of the first wrong line of a text, None for a world."""
    if not isinstance(text, str) or text == "":
        return 0
    if text[-1] != "\n":
        return text.count("\n")
    told = {"words": set(), "kinds": {}, "things": {}, "forms": {}, "places": {}, "deeds": 0, "stage": 0}
    lines = text[:-1].split("\n")
    for at, line in enumerate(lines):
        if not fits(told, line):
            return at
    return None if told["stage"] == 8 else len(lines)


def fits(told, line):
    head = line.split(" ")[0]
    if head not in ORDER or not follows(told, ORDER.index(head)):
        return False
    told["stage"] = ORDER.index(head)
    if head == "kind":
        match = re.fullmatch(f"kind ({WORD}(?: {WORD})+)", line)
        return match is not None and fits_kind(told, match[1].split(" "))
    if head == "fact":
        match = re.fullmatch(f"fact ({WORD})((?: {WORD}){{0,3}})", line)
        return match is not None and fits_fact(told, match[1], match[2].split())
    if head == "deed":
        match = re.fullmatch(f"deed ({WORD}) [1-9]((?: [A-Z]:{WORD}){{0,3}})", line)
        return match is not None and fits_deed(told, match[1], match[2].split())
    if head in ("begin", "wish"):
        return line == head or fits_atoms(told, line[len(head):], {})
    return fits_atoms(told, line[len(head):], told["places"])


def follows(told, now):
    stage = told["stage"]
    if now == 2:
        return stage <= 6
    if 3 <= now <= 6:
        return 2 <= stage < now
    if now == 7:
        return 2 <= stage <= 6
    if now == 8:
        return stage == 7
    return stage <= now


def fits_new(told, words):
    if len(set(words)) < len(words) or told["words"] & set(words):
        return False
    told["words"].update(words)
    return True


def fits_kind(told, words):
    if not fits_new(told, words):
        return False
    told["kinds"][words[0]] = words[1:]
    told["things"].update({thing: words[0] for thing in words[1:]})
    return True


def fits_fact(told, form, kinds):
    told["forms"][form] = kinds
    return all(kind in told["kinds"] for kind in kinds) and fits_new(told, [form])


def fits_deed(told, word, places):
    pairs = [place.split(":") for place in places]
    told["places"] = dict(pairs)
    known = all(kind in told["kinds"] for _, kind in pairs)
    return known and len(told["places"]) == len(pairs) and fits_new(told, [word])


def fits_atoms(told, text, places):
    if not text.startswith(" "):
        return False
    for atom in text[1:].split(", "):
        form, *given = atom.split(" ")
        if form not in told["forms"] or len(given) != len(told["forms"][form]):
            return False
        for word, kind in zip(given, told["forms"][form]):
            if kind not in (places.get(word), told["things"].get(word)):
                return False
    return True


def slow_task(text):
    """The task of a world that is right, with all ways to give things tried; too many of anything is left to see."""
    things, deeds, ends = {}, [], {}
    for line in text[:-1].split("\n"):
        head, _, rest = line.partition(" ")
        words = rest.split(" ")
        if head == "kind":
            things[words[0]] = words[1:]
        elif head == "deed":
            deeds.append((words[0], int(words[1]), [place.split(":") for place in words[2:]], {}))
        elif head in ("begin", "wish"):
            ends[head] = tuple(sorted(set(rest.split(", ")) - {""}))
        elif head != "fact":
            deeds[-1][3][head] = rest.split(", ")
    found = []
    for word, cost, places, rows in deeds:
        for way in product(*[things[kind] for _, kind in places]):
            given = {letter: thing for (letter, _), thing in zip(places, way)}
            rowed = [{" ".join(given.get(part, part) for part in atom.split(" ")) for atom in rows.get(head, [])}
                     for head in ("needs", "bars", "adds", "strikes")]
            if len(set(way)) == len(way) and not rowed[0] & rowed[1]:
                rowed[3] -= rowed[2]
                found.append((" ".join([word, *way]), *[tuple(sorted(row)) for row in rowed], cost))
    return (tuple(sorted(found)), ends["begin"], ends["wish"])
