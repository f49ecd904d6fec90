"""Worlds: texts of kinds, things and forms of facts and deeds, and the tasks of them (points 15 and 16)."""

from wishroads.errors import BadNumber, BadText, TooMany
from wishroads.tasks import MOST_DEEDS, MOST_FACTS, told_facts

SMALL_LETTERS = "abcdefghijklmnopqrstuvwxyz"
CAPITALS = "ABCDEFGHIJKLMNOPQRSTUVWXYZ"
FIGURES = "0123456789"
PRICES = "123456789"
MOST_LETTERS = 8
MOST_PLACES = 3

FOLLOWERS = {
    "": ("kind", "fact", "deed"),
    "kind": ("kind", "fact", "deed"),
    "fact": ("fact", "deed"),
    "deed": ("needs", "bars", "adds", "strikes", "deed", "begin"),
    "needs": ("bars", "adds", "strikes", "deed", "begin"),
    "bars": ("adds", "strikes", "deed", "begin"),
    "adds": ("strikes", "deed", "begin"),
    "strikes": ("deed", "begin"),
    "begin": ("wish",),
    "wish": (),
}

SAMPLES = {
    "lift": """kind floor low high
kind folk ann
fact lift floor
fact at folk floor
fact inside folk
deed go 2 X:floor Y:floor
needs lift X
adds lift Y
strikes lift X
deed enter 1 P:folk X:floor
needs lift X, at P X
adds inside P
strikes at P X
deed leave 1 P:folk X:floor
needs lift X, inside P
adds at P X
strikes inside P
begin lift high, at ann low
wish at ann high
""",
    "keys": """kind room hall cell yard
fact in room
fact key
fact open
deed walk 1
needs in hall
adds in cell
strikes in hall
deed back 1
needs in cell
adds in hall
strikes in cell
deed take 1
needs in cell
bars key
adds key
deed unlock 2
needs in hall, key
adds open
strikes key
deed leave 3
needs in hall, open
adds in yard
strikes in hall
begin in hall
wish in yard
""",
}


class DeedForm:
    """A deed of a world; places gives the kind of each letter, atoms what each line below it tells."""

    def __init__(self, word, cost, places):
        self.word = word
        self.cost = cost
        self.places = places
        self.atoms = {"needs": [], "bars": [], "adds": [], "strikes": []}


class World:
    """What the lines read so far tell; last is the first word of the last of them."""

    def __init__(self):
        self.last = ""
        self.named = {}
        self.things_of = {}
        self.kind_of = {}
        self.fact_forms = {}
        self.deed_forms = []
        self.ends = {"begin": [], "wish": []}


def is_word(text):
    """Whether text is 1 to 8 small letters and figures, a letter first."""
    if not 1 <= len(text) <= MOST_LETTERS or text[0] not in SMALL_LETTERS:
        return False
    return all([sign in SMALL_LETTERS or sign in FIGURES for sign in text])


def names_new(world, words):
    """Name a thing with each of the words; whether each is a word that has named none before."""
    for word in words:
        if not is_word(word) or word in world.named:
            return False
        world.named[word] = True
    return True


def are_kinds(world, words):
    """Whether the words are kinds of at most as many places as there may be."""
    return len(words) <= MOST_PLACES and all([word in world.things_of for word in words])


def reads_kind(world, words):
    """Read a kind and its things; whether they are right."""
    if len(words) < 2 or not names_new(world, words):
        return False
    kind, *things = words
    world.things_of[kind] = things
    for thing in things:
        world.kind_of[thing] = kind
    return True


def reads_fact(world, words):
    """Read a form of facts and the kinds of its places; whether they are right."""
    form, *kinds = words
    if not are_kinds(world, kinds) or not names_new(world, [form]):
        return False
    world.fact_forms[form] = kinds
    return True


def reads_deed(world, words):
    """Read a deed, its price and its places; whether they are right."""
    if len(words) < 2:
        return False
    word, cost, *told = words
    parts = [place.partition(":") for place in told]
    places = {letter: kind for letter, _, kind in parts}
    if len(cost) != 1 or cost not in PRICES or len(places) < len(told):
        return False
    if not all([len(letter) == 1 and letter in CAPITALS for letter in places]):
        return False
    if not are_kinds(world, list(places.values())) or not names_new(world, [word]):
        return False
    world.deed_forms.append(DeedForm(word, int(cost), places))
    return True


def is_atom(world, places, words):
    """Whether the words are a form of facts and what fits in its places."""
    form, *given = words
    if form not in world.fact_forms:
        return False
    return [places.get(word, world.kind_of.get(word)) for word in given] == world.fact_forms[form]


def reads_atoms(world, head, text):
    """Read the atoms of a line; whether they are right."""
    places = {}
    atoms = world.ends
    if head not in world.ends:
        places = world.deed_forms[-1].places
        atoms = world.deed_forms[-1].atoms
    told = [tuple(atom.split(" ")) for atom in text.split(", ")]
    if not all([is_atom(world, places, words) for words in told]):
        return False
    atoms[head] = sorted(set(told))
    return True


def reads_line(world, line):
    """Read a line; whether it is right and stands in the sequence."""
    head, _, text = line.partition(" ")
    if head not in FOLLOWERS[world.last]:
        return False
    world.last = head
    if head == "kind":
        return reads_kind(world, text.split(" "))
    if head == "fact":
        return reads_fact(world, text.split(" "))
    if head == "deed":
        return reads_deed(world, text.split(" "))
    # Only begin and wish may stand without atoms.
    if line in ("begin", "wish"):
        return True
    return reads_atoms(world, head, text)


def world_of(text):
    """The world that a text tells of."""
    if not isinstance(text, str) or not text:
        raise BadText(0)
    *lines, rest = text.split("\n")
    if rest:
        raise BadText(len(lines))
    world = World()
    for at, line in enumerate(lines):
        if not reads_line(world, line):
            raise BadText(at)
    if world.last != "wish":
        raise BadText(len(lines))
    return world


def clash_of(need, bar, places):
    """The pairs (letter, thing) that must be given if two atoms are to be one fact, None if they never are."""
    if need[0] != bar[0]:
        return None
    pairs = []
    for one, other in zip(need[1:], bar[1:]):
        if one != other:
            # Unlike things stay unlike, and so do unlike places, which have unlike things.
            if (one in places) == (other in places):
                return None
            pairs.append((one, other) if one in places else (other, one))
    return tuple(sorted(set(pairs)))


def clashes_of(form):
    """What must not be given in the form of a deed, as it would need and bar one fact."""
    told = [clash_of(need, bar, form.places) for need in form.atoms["needs"] for bar in form.atoms["bars"]]
    return {clash: True for clash in told if clash is not None}


def is_met(clash, given):
    """Whether all of the clash is given."""
    return all([given.get(letter) == thing for letter, thing in clash])


def ways_given(world, form):
    """The ways to give things to the letters of a deed that needs no fact that it bars, or one more than may be."""
    clashes = clashes_of(form)
    letters = list(form.places)
    choices = []
    for letter, kind in form.places.items():
        choices.append([thing for thing in world.things_of[kind] if ((letter, thing),) not in clashes])
    if [] in choices:
        return []
    found = []
    waiting = [()]
    while waiting and len(found) <= MOST_DEEDS:
        things = waiting.pop()
        given = dict(zip(letters, things))
        # A part of a way that clashes is not gone on with: there may be very many such ways.
        if any([is_met(clash, given) for clash in clashes]):
            continue
        if len(things) == len(letters):
            found.append(given)
        else:
            waiting.extend([(*things, thing) for thing in choices[len(things)] if thing not in things])
    return found


def facts_of(atoms, given):
    """The facts that come of atoms if things are given to their letters."""
    return tuple(sorted(set([" ".join([given.get(word, word) for word in atom]) for atom in atoms])))


def deed_of(form, given):
    """The deed that comes of its form if things are given to its letters."""
    name = " ".join([form.word] + [given[letter] for letter in form.places])
    needs = facts_of(form.atoms["needs"], given)
    bars = facts_of(form.atoms["bars"], given)
    adds = facts_of(form.atoms["adds"], given)
    strikes = facts_of(form.atoms["strikes"], given)
    left = tuple([fact for fact in strikes if fact not in adds])
    return (name, needs, bars, adds, left, form.cost)


def deeds_of(world):
    """The tuple of the deeds of a world, ascending by their names."""
    deeds = []
    for form in world.deed_forms:
        deeds.extend([deed_of(form, given) for given in ways_given(world, form)])
        if len(deeds) > MOST_DEEDS:
            raise TooMany(MOST_DEEDS)
    return tuple(sorted(deeds))


def task_of(text):
    """The task of the world that a text tells of."""
    world = world_of(text)
    task = (deeds_of(world), facts_of(world.ends["begin"], {}), facts_of(world.ends["wish"], {}))
    if len(told_facts(task)) > MOST_FACTS:
        raise TooMany(MOST_FACTS)
    return task


def sample(name):
    """The text of the sample world "lift" or "keys"."""
    if not isinstance(name, str) or name not in SAMPLES:
        raise BadNumber()
    return SAMPLES[name]
