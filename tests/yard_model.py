"""Another reckoning of a yard: the model's chains, all copied ahead of each deed, and what is taken back done anew."""

from copy import deepcopy
from fractions import Fraction

from model import NAMES, Model, pair, standing
from pailchain.errors import (
    BadCount, BadName, BadPace, BadTime, BadWay, Busy, Called, Full, Idle, NoChain, NoHand, NoNext, Nobody, NotCalled,
    NothingLeft, Taken, TooLong,
)


class State:
    def __init__(self):
        self.hour = Fraction(0)
        self.hired = []
        self.paces = {}
        self.posts = {}
        self.models = []
        self.book = []


def is_pace(pace):
    return 1 <= pace <= 12


def refusal_of_way(state, way):
    if not 1 <= len(way) <= 6 or any(not 1 <= part <= 9 for stretch in way for part in stretch):
        return BadWay
    return Full if len(state.models) >= 4 else None


def refusal_of_hiring(state, name, pace):
    if not 1 <= len(name) <= 8 or not name.isascii() or not name.isalpha() or not name.islower():
        return BadName
    if name in state.hired:
        return Taken
    if not is_pace(pace):
        return BadPace
    return Full if len(state.hired) >= 30 else None


def refusal_of_sending(state, name, number):
    if name not in state.hired:
        return NoHand
    if name in state.posts:
        return Busy
    if not 0 <= number < len(state.models):
        return NoChain
    return Full if len(state.models[number].names) >= 8 else None


def refusal_of_another_pace(state, name, pace):
    if name not in state.hired:
        return NoHand
    return None if is_pace(pace) else BadPace


def refusal_in_chain(state, word, name):
    if name not in state.hired:
        return NoHand
    if name not in state.posts:
        return Idle
    model = state.models[state.posts[name]]
    if word == "swap":
        return NoNext if model.names[-1] == name else None
    if word == "call":
        return Called if name in model.called else None
    return None if name in model.called else NotCalled


def any_too_long(models, hours):
    for model in models:
        trial = deepcopy(model)
        trial.go(hours)
        if len(trial.emptied) - len(model.emptied) > 60:
            return TooLong
    return None


def refusal_of_hours(state, num, den):
    if den < 1:
        return BadTime
    hours = Fraction(num, den)
    if not 0 <= hours <= 60 or hours.denominator > 60:
        return BadTime
    return any_too_long(state.models, hours)


def refusal_of_outs(state, number, count):
    if not 0 <= number < len(state.models):
        return NoChain
    if not 1 <= count <= 60:
        return BadCount
    if not state.models[number].names:
        return Nobody
    trial = deepcopy(state.models[number])
    trial.outs(count)
    others = [model for at, model in enumerate(state.models) if at != number]
    return any_too_long(others, trial.hour - state.hour)


def refusal(state, deed):
    """The class with which the deed is refused, or None."""
    word, things = deed[0], deed[1:]
    if word == "lay":
        return refusal_of_way(state, *things)
    if word == "hire":
        return refusal_of_hiring(state, *things)
    if word == "dismiss":
        if things[0] not in state.hired:
            return NoHand
        return Busy if things[0] in state.posts else None
    if word == "send":
        return refusal_of_sending(state, *things)
    if word == "pace":
        return refusal_of_another_pace(state, *things)
    if word == "go":
        return refusal_of_hours(state, *things)
    if word == "outs":
        return refusal_of_outs(state, *things)
    return refusal_in_chain(state, word, *things)


def rows_of(state, found):
    """The yard's rows from those of each chain, sorted; who left is in the pool."""
    rows = []
    for number, some in found.items():
        rows += [(Fraction(*row[0]), number, at, row) for at, row in enumerate(some)]
    told = [(row[0], number) + row[1:] for hour, number, at, row in sorted(rows)]
    for row in told:
        if row[2] == "left":
            del state.posts[row[3]]
    state.book += told
    return told


def go_on(state, hours, first):
    """All chains go on for so many hours, but for those of first, whose rows are there already."""
    found = dict(first)
    for number, model in enumerate(state.models):
        if number not in first:
            found[number] = model.go(hours)
    state.hour += hours
    return rows_of(state, found)


def do_in_chain(state, word, name):
    getattr(state.models[state.posts[name]], word)(name)


def done(state, deed):
    """Does a deed that can be done; the answer."""
    word, things = deed[0], deed[1:]
    if word == "lay":
        state.models.append(Model(sum(count * toil for count, toil in things[0])))
        state.models[-1].hour = state.hour
        return len(state.models) - 1
    if word == "hire":
        state.hired.append(things[0])
        state.paces[things[0]] = things[1]
    elif word == "dismiss":
        state.hired.remove(things[0])
    elif word == "send":
        state.posts[things[0]] = things[1]
        return state.models[things[1]].enter(things[0], state.paces[things[0]])
    elif word == "pace":
        state.paces[things[0]] = things[1]
        if things[0] in state.posts:
            state.models[state.posts[things[0]]].set_pace(*things)
    elif word == "go":
        return go_on(state, Fraction(*things), {})
    elif word == "outs":
        rows = state.models[things[0]].outs(things[1])
        return go_on(state, state.models[things[0]].hour - state.hour, {things[0]: rows})
    else:
        do_in_chain(state, word, *things)
    return None


class YardModel:
    def __init__(self):
        self.state = State()
        # Deeds done, each with the state ahead of it, and deeds taken back.
        self.past = []
        self.future = []

    def do(self, deed):
        """The answer, or the class of the refusal."""
        known = refusal(self.state, deed)
        if known is None:
            self.future = []
            return self.step(deed)
        return known

    def step(self, deed):
        self.past.append((deed, deepcopy(self.state)))
        return done(self.state, deed)

    def undo(self):
        if not self.past:
            return NothingLeft
        deed, self.state = self.past.pop()
        self.future.append(deed)
        return deed

    def redo(self):
        if not self.future:
            return NothingLeft
        deed = self.future.pop()
        self.step(deed)
        return deed

    def standing(self):
        """All that a yard can be asked, as yard_standing(yard) tells it."""
        state = self.state
        return {
            "hour": pair(state.hour),
            "pool": [name for name in state.hired if name not in state.posts],
            "hands": {name: (state.posts.get(name), state.paces[name]) for name in NAMES if name in state.hired},
            "chains": [model.standing() for model in state.models],
            "book": list(state.book),
            "deeds": [deed for deed, ahead in self.past],
            "undone": self.future[::-1],
        }


def undone(yard):
    """What can be done again, the next one first."""
    twin = yard.twin()
    found = []
    while True:
        try:
            found.append(twin.redo())
        except NothingLeft:
            return found


def hands_of(yard):
    """Where those are that are tried in these tests, and their paces."""
    found = {}
    for name in NAMES:
        try:
            found[name] = (yard.where(name), yard.pace(name))
        except NoHand:
            pass
    return found


def yard_standing(yard):
    """All that a yard can be asked, copied, so that a list that the yard holds can't hide in it."""
    return deepcopy({
        "hour": yard.hour(),
        "pool": yard.pool(),
        "hands": hands_of(yard),
        "chains": [standing(yard.chain(number)) for number in range(yard.chains())],
        "book": yard.book(),
        "deeds": yard.deeds(),
        "undone": undone(yard),
    })
