"""The yard: hands by name, some chains and one clock for all, and what can be taken back."""

from pailchain.amounts import NOUGHT, amount, below, minus, plus
from pailchain.chain import Chain
from pailchain.checks import check_hours, check_name, check_pace, is_number, is_within
from pailchain.errors import BadTime, Busy, Full, Idle, NoChain, NoHand, NothingLeft, Taken

MOST_CHAINS = 4
MOST_HIRED = 30


def numbered(rows, number):
    """A chain's rows with its number behind the hour."""
    return [(row[0], number) + row[1:] for row in rows]


def merged(rows, others):
    """Two lists of rows as one, by hours; at the same hour those of the first list go ahead."""
    found = []
    at = 0
    for other in others:
        while at < len(rows) and not below(other[0], rows[at][0]):
            found.append(rows[at])
            at += 1
        found.append(other)
    return found + rows[at:]


class Ground:
    """How a yard stands. A ground that a yard keeps is not changed any more, and its chains neither."""

    def __init__(self):
        self.now = NOUGHT
        # The paces by name, in the order of hiring.
        self.tempos = {}
        # The chain's number by name, of those only that are in a chain.
        self.posts = {}
        self.laid = []

    def twin(self):
        """Another ground that stands alike, with the very same chains: lead() tells one that may be changed."""
        other = Ground()
        other.now = self.now
        other.tempos = dict(self.tempos)
        other.posts = dict(self.posts)
        other.laid = list(self.laid)
        return other

    def check_hand(self, name):
        if name not in self.tempos:
            raise NoHand()

    def check_idle(self, name):
        """Refuses with NoHand, then with Busy who is in a chain."""
        self.check_hand(name)
        if name in self.posts:
            raise Busy()

    def check_chain(self, number):
        if not is_within(number, 0, len(self.laid) - 1):
            raise NoChain()

    def lead(self, number):
        """The chain of this number, from now on one that this ground alone has."""
        chain = self.laid[number].twin()
        self.laid[number] = chain
        return chain

    def lead_of(self, name):
        """The chain in which the hand is, to be led."""
        self.check_hand(name)
        if name not in self.posts:
            raise Idle()
        return self.lead(self.posts[name])

    def settle(self, hours, found):
        """Notes that so many hours are gone and who is in the pool now; the yard's rows from those of each chain."""
        self.now = plus(self.now, hours)
        rows = []
        for number, some in enumerate(found):
            rows = merged(rows, numbered(some, number))
        for row in rows:
            if row[2] == "left":
                self.posts.pop(row[3])
        return rows


def lay(ground, way):
    """A new chain; its number."""
    chain = Chain(way)
    if len(ground.laid) >= MOST_CHAINS:
        raise Full()
    # It has no hands, so nothing but its hour changes.
    chain.walk_for(ground.now)
    ground.laid.append(chain)
    return len(ground.laid) - 1


def hire(ground, name, pace):
    check_name(name)
    if name in ground.tempos:
        raise Taken()
    check_pace(pace)
    if len(ground.tempos) >= MOST_HIRED:
        raise Full()
    ground.tempos[name] = pace


def dismiss(ground, name):
    ground.check_idle(name)
    ground.tempos.pop(name)


def send(ground, name, number):
    """The hand joins the chain; the number of its pail."""
    ground.check_idle(name)
    ground.check_chain(number)
    pail = ground.lead(number).enter(name, ground.tempos[name])
    ground.posts[name] = number
    return pail


def call(ground, name):
    ground.lead_of(name).call(name)


def stay(ground, name):
    ground.lead_of(name).stay(name)


def swap(ground, name):
    ground.lead_of(name).swap(name)


def set_pace(ground, name, pace):
    ground.check_hand(name)
    check_pace(pace)
    if name in ground.posts:
        ground.lead_of(name).set_pace(name, pace)
    ground.tempos[name] = pace


def go(ground, num, den):
    """All chains go on for some hours; the rows of what came."""
    if not is_number(num) or not is_number(den) or den < 1:
        raise BadTime()
    hours = amount(num, den)
    check_hours(hours)
    found = []
    for number in range(len(ground.laid)):
        found.append(ground.lead(number).walk_for(hours))
    return ground.settle(hours, found)


def outs(ground, number, count):
    """A chain goes on till so many of its pails were emptied, the others for as long; the rows of what came."""
    ground.check_chain(number)
    chain = ground.lead(number)
    rows = chain.outs(count)
    hours = minus(chain.hour(), ground.now)
    found = []
    for other in range(len(ground.laid)):
        if other == number:
            found.append(rows)
        else:
            found.append(ground.lead(other).walk_for(hours))
    return ground.settle(hours, found)


DEEDS = {
    "lay": lay,
    "hire": hire,
    "dismiss": dismiss,
    "send": send,
    "call": call,
    "stay": stay,
    "swap": swap,
    "pace": set_pace,
    "go": go,
    "outs": outs,
}


class Yard:
    """Deeds are steps: tuples of the deed, the ground behind it, and the rows that it adds to the book."""

    def __init__(self):
        self.done = []
        self.undone = []

    def do(self, deed):
        """Does the deed: a chain's number for lay, a pail's for send, rows for go and outs, else None."""
        # A deed may be refused when it has changed much already, so it is tried on a ground of its own.
        ground = self.ground().twin()
        action = DEEDS[deed[0]]
        things = deed[1:]
        answer = action(ground, *things)
        rows = tuple(answer) if deed[0] in ("go", "outs") else ()
        self.done.append((deed, ground, rows))
        self.undone = []
        return answer

    def undo(self):
        """Takes back the last deed done; the deed."""
        if not self.done:
            raise NothingLeft()
        step = self.done.pop()
        self.undone.append(step)
        return step[0]

    def redo(self):
        """Does again the last deed taken back; the deed."""
        if not self.undone:
            raise NothingLeft()
        step = self.undone.pop()
        self.done.append(step)
        return step[0]

    def hour(self):
        return self.ground().now

    def pool(self):
        """The names of those in no chain, in the order of their hiring."""
        ground = self.ground()
        return [name for name in ground.tempos if name not in ground.posts]

    def chains(self):
        """How many chains are laid."""
        return len(self.ground().laid)

    def chain(self, number):
        """A chain that stands as the one of this number, of which each goes its own way."""
        ground = self.ground()
        ground.check_chain(number)
        return ground.laid[number].twin()

    def where(self, name):
        """The number of the hand's chain, None where it is in the pool."""
        ground = self.ground()
        ground.check_hand(name)
        return ground.posts.get(name)

    def pace(self, name):
        ground = self.ground()
        ground.check_hand(name)
        return ground.tempos[name]

    def book(self):
        """All rows that were answered, in their order."""
        return [row for step in self.done for row in step[2]]

    def deeds(self):
        """The deeds done and not taken back, in their order."""
        return [step[0] for step in self.done]

    def twin(self):
        """Another yard that stands alike, with the same to take back and to do again."""
        other = Yard()
        # Steps are not changed any more, so both may have the same ones.
        other.done = list(self.done)
        other.undone = list(self.undone)
        return other

    def ground(self):
        """How the yard stands behind the last deed done."""
        if self.done:
            return self.done[-1][1]
        return Ground()
