"""Tasks, states, deeds and plans (points 1 to 3)."""

from wishroads.errors import BadDeed, BadState, BadTask

MOST_SIGNS = 40
MOST_DEEDS = 14
MOST_FACTS = 10
MOST_PRICE = 9


def is_integer(value):
    """Whether value is an int that is no bool."""
    return isinstance(value, int) and not isinstance(value, bool)


def is_number(value, least, most):
    """Whether any value is an integer from least to most."""
    return is_integer(value) and least <= value <= most


def is_sign_row(value):
    """Whether value is a string of 1 to 40 signs, as facts and names of deeds are."""
    return isinstance(value, str) and 1 <= len(value) <= MOST_SIGNS


def is_ascending(words):
    """Whether each word is greater than the one ahead of it, so that none are alike."""
    return all([ahead < word for ahead, word in zip(words, words[1:])])


def is_facts(value):
    """Whether any value is an ascending tuple of unlike facts."""
    if not isinstance(value, tuple) or not all([is_sign_row(fact) for fact in value]):
        return False
    return is_ascending(value)


def is_deed(value):
    """Whether any value is a deed."""
    if not isinstance(value, tuple) or len(value) != 6:
        return False
    name, needs, bars, adds, strikes, cost = value
    if not is_sign_row(name) or not all([is_facts(row) for row in (needs, bars, adds, strikes)]):
        return False
    if some_stand(needs, bars) or some_stand(adds, strikes):
        return False
    return is_number(cost, 1, MOST_PRICE)


def all_stand(wanted, state):
    """Whether all the wanted facts are in state."""
    return all([fact in state for fact in wanted])


def some_stand(unwanted, state):
    """Whether one of the unwanted facts, at least, is in state."""
    standing = set(state)
    return any([fact in standing for fact in unwanted])


def told_facts(task):
    """The facts that a value with the form of a task tells of, however many."""
    deeds, begin, wish = task
    told = [fact for deed in deeds for row in deed[1:5] for fact in row]
    return tuple(sorted(set([*told, *begin, *wish])))


def wrong_word(value):
    """What is wrong first with a value that is no task, None for a task."""
    if not isinstance(value, tuple) or len(value) != 3:
        return "form"
    deeds, begin, wish = value
    if not isinstance(deeds, tuple) or len(deeds) > MOST_DEEDS:
        return "deeds"
    if not all([is_deed(deed) for deed in deeds]):
        return "deeds"
    if not is_ascending([deed[0] for deed in deeds]):
        return "names"
    if not is_facts(begin):
        return "begin"
    if not is_facts(wish):
        return "wish"
    if len(told_facts(value)) > MOST_FACTS:
        return "facts"
    return None


def is_task(value):
    """Whether any value is a task."""
    return wrong_word(value) is None


def check_task(task):
    """Raise BadTask for a value that is no task."""
    word = wrong_word(task)
    if word is not None:
        raise BadTask(word)


def facts(task):
    """The ascending tuple of the facts of the task."""
    check_task(task)
    return told_facts(task)


def is_facts_among(value, signs):
    """Whether any value is facts, all of them among the signs."""
    return is_facts(value) and all_stand(value, signs)


def check_state(task, state):
    """Raise BadState for a value that is no state of the task."""
    if not is_facts_among(state, told_facts(task)):
        raise BadState()


def can_be_done(deed, state):
    """Whether all needs of the deed stand in state, and none of its bars."""
    return all_stand(deed[1], state) and not some_stand(deed[2], state)


def altered(row, gone, come):
    """The facts of the row without those that are gone, with those that come."""
    kept = [fact for fact in row if fact not in gone]
    return tuple(sorted(set([*kept, *come])))


def state_behind(deed, state):
    """The state behind a deed that is done in state."""
    return altered(state, deed[4], deed[3])


def deed_to_do(task, state, name):
    """The deed of this name if it can be done in state, None if there is none."""
    if isinstance(name, str):
        for deed in task[0]:
            if deed[0] == name and can_be_done(deed, state):
                return deed
    return None


def open_deeds(task, state):
    """The ascending tuple of the names of the deeds that can be done in state."""
    check_task(task)
    check_state(task, state)
    return tuple([deed[0] for deed in task[0] if can_be_done(deed, state)])


def done(task, state, name):
    """The state behind the deed of this name."""
    check_task(task)
    check_state(task, state)
    deed = deed_to_do(task, state, name)
    if deed is None:
        raise BadDeed(None)
    return state_behind(deed, state)


def run(task, names):
    """The tuple of the states along a tuple of names, the beginning first."""
    check_task(task)
    if not isinstance(names, tuple):
        raise BadDeed(None)
    states = [task[1]]
    for at, name in enumerate(names):
        deed = deed_to_do(task, states[-1], name)
        if deed is None:
            raise BadDeed(at)
        states.append(state_behind(deed, states[-1]))
    return tuple(states)


def price(task, names):
    """The sum of the prices of a tuple of names that can be done one behind the other."""
    run(task, names)
    prices = {deed[0]: deed[5] for deed in task[0]}
    return sum([prices[name] for name in names])


def is_plan(task, value):
    """Whether any value is a plan of the task."""
    try:
        states = run(task, value)
    except BadDeed:
        return False
    return all_stand(task[2], states[-1])
