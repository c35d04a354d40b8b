"""Another reckoning of a chain, by fractions and without meetings, against which the tests hold the program.

Between two turns hand i is, some hours on, at the least of place + pace * hours over itself and all
ahead of it: so the model needs no meetings, and steps from turn to turn at once.
"""

from copy import deepcopy
from fractions import Fraction

from pailchain.errors import NoHand

NAMES = list("abcdefghijklmnopqrstuvwxyz") + ["new", "al", "bo", "cy", "di", "ed", "fay", "gus"]


def pair(worth):
    worth = Fraction(worth)
    return (worth.numerator, worth.denominator)


def pairs(worths):
    return [pair(worth) for worth in worths]


def places_on(paces, places, hours):
    """The places some hours on, if there is no turn till then."""
    free = [place + pace * hours for pace, place in zip(paces, places)]
    return [min(free[at:]) for at in range(len(free))]


class Model:
    def __init__(self, labour):
        self.labour = labour
        self.hour = Fraction(0)
        self.names = []
        self.paces = {}
        self.called = set()
        self.pails = []
        self.places = []
        self.ledgers = {}
        self.stories = []
        self.emptied = []

    def new_pail(self):
        self.pails.insert(0, len(self.stories))
        self.places.insert(0, Fraction(0))
        self.stories.append([])
        return self.pails[0]

    def enter(self, name, pace):
        self.names.insert(0, name)
        self.paces[name] = pace
        self.ledgers.setdefault(name, [Fraction(0)] * 3)
        return self.new_pail()

    def call(self, name):
        self.called.add(name)

    def stay(self, name):
        self.called.remove(name)

    def swap(self, name):
        at = self.names.index(name)
        self.names[at:at + 2] = self.names[at:at + 2][::-1]

    def set_pace(self, name, pace):
        self.paces[name] = pace

    def row_paces(self):
        return [self.paces[name] for name in self.names]

    def bear(self, at, end):
        """The hand at this number bears its pail to a place."""
        name, begin, story = self.names[at], self.places[at], self.stories[self.pails[at]]
        if begin == end:
            return
        if story and story[-1][0] == name:
            begin = story.pop()[1]
        story.append((name, begin, end))

    def move(self, hours):
        ends = places_on(self.row_paces(), self.places, hours)
        for at, end in enumerate(ends):
            done = end - self.places[at]
            full = self.paces[self.names[at]] * hours
            before = self.ledgers[self.names[at]]
            self.ledgers[self.names[at]] = [before[0] + hours, before[1] + done, before[2] + full - done]
            self.bear(at, end)
        self.places = ends
        self.hour += hours

    def turn(self):
        pail = self.pails.pop()
        self.places.pop()
        self.emptied.append(pail)
        rows = [(pair(self.hour), "out", pail, self.names[-1])]
        away = [name for name in self.names if name in self.called]
        if away:
            rows.append((pair(self.hour), "left", away[-1]))
            self.names.remove(away[-1])
            self.called.remove(away[-1])
        else:
            self.new_pail()
        return rows

    def turns(self):
        rows = []
        while self.names and self.places[-1] == self.labour:
            rows += self.turn()
        return rows

    def next_out(self):
        if not self.names:
            return None
        return (self.labour - self.places[-1]) / Fraction(self.paces[self.names[-1]])

    def go(self, hours):
        rows = []
        while self.names and self.next_out() <= hours:
            hours -= self.next_out()
            self.move(self.next_out())
            rows += self.turns()
        self.move(hours)
        return rows

    def outs(self, count):
        rows = []
        end = len(self.emptied) + count
        while self.names and len(self.emptied) < end:
            self.move(self.next_out())
            rows += self.turns()
        return rows

    def standing(self):
        """All that a chain can be asked, as standing(chain) tells it."""
        away = self.next_out()
        return {
            "hour": pair(self.hour),
            "hands": list(self.names),
            "called": [name for name in self.names if name in self.called],
            "paces": self.row_paces(),
            "places": pairs(self.places),
            "pails": list(self.pails),
            "emptied": list(self.emptied),
            "taken": len(self.stories),
            "next": None if away is None else pair(away),
            "ledgers": {name: tuple(pairs(found)) for name, found in self.ledgers.items()},
            "stories": [[(name, pair(begin), pair(end)) for name, begin, end in story] for story in self.stories],
        }


def ledgers(chain):
    """The ledgers of all that are tried in these tests and were once in the chain."""
    found = {}
    for name in NAMES:
        try:
            found[name] = chain.ledger(name)
        except NoHand:
            pass
    return found


def standing(chain):
    """All that a chain can be asked, copied, so that a list that the chain holds can't hide in it."""
    hands = chain.hands()
    return deepcopy({
        "hour": chain.hour(),
        "hands": hands,
        "called": chain.called(),
        "paces": [chain.pace(name) for name in hands],
        "places": [chain.place(name) for name in hands],
        "pails": [chain.pail(name) for name in hands],
        "emptied": chain.emptied(),
        "taken": chain.pails(),
        "next": chain.next_out(),
        "ledgers": ledgers(chain),
        "stories": [chain.story(pail) for pail in range(chain.pails())],
    })
