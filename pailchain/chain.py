"""Chains: hands that join, hand pails on towards the fire, and leave."""

from pailchain.amounts import NOUGHT, below, lesser, minus, plus, times
from pailchain.checks import MOST_HANDS, check_hours, check_name, check_pace, is_within
from pailchain.errors import BadCount, Called, Full, NoHand, NoNext, NoPail, Nobody, NotCalled, Taken, TooLong
from pailchain.walking import hours_at, meeting, speeds, walked
from pailchain.way import labour

MOST_OUTS = 60


def ledger_on(ledger, pace, speed, hours):
    """A ledger behind some more hours of one hand, at a speed that may be less than its pace."""
    time, done, lost = ledger
    more = times((speed, 1), hours)
    short = times((pace - speed, 1), hours)
    return (plus(time, hours), plus(done, more), plus(lost, short))


def story_rows(marks):
    """A story's rows from marks (name, to): who bore the pail up to where, in their order."""
    rows = []
    start = NOUGHT
    for name, end in marks:
        if end == start:
            continue
        if rows and rows[-1][0] == name:
            rows[-1] = (name, rows[-1][1], end)
        else:
            rows.append((name, start, end))
        start = end
    return rows


class Chain:
    """Hands on a way. Rows from the well to the fire stand in lists side by side."""

    def __init__(self, way):
        self.fire = labour(way)
        self.stretches = tuple(way)
        self.now = NOUGHT
        self.row = []
        self.loads = []
        self.spots = []
        self.tempos = {}
        self.leaving = []
        self.ledgers = {}
        # For each pail the marks (name, place) of those who handed it on or emptied it: a tuple, so that twins can
        # have the same one.
        self.marks = []
        self.poured = []

    def enter(self, name, pace):
        """The hand joins as the first one; the number of its pail."""
        check_name(name)
        if name in self.row:
            raise Taken()
        check_pace(pace)
        if len(self.row) >= MOST_HANDS:
            raise Full()
        self.row.insert(0, name)
        self.tempos[name] = pace
        if name not in self.ledgers:
            self.ledgers[name] = (NOUGHT, NOUGHT, NOUGHT)
        return self.take_pail()

    def call(self, name):
        self.number_of(name)
        if name in self.leaving:
            raise Called()
        self.leaving.append(name)

    def stay(self, name):
        self.number_of(name)
        if name not in self.leaving:
            raise NotCalled()
        self.leaving.remove(name)

    def swap(self, name):
        """The hand and the next one change places; pails stay where they are."""
        at = self.number_of(name)
        if at == len(self.row) - 1:
            raise NoNext()
        self.mark(at)
        self.mark(at + 1)
        self.row[at], self.row[at + 1] = self.row[at + 1], self.row[at]

    def set_pace(self, name, pace):
        self.number_of(name)
        check_pace(pace)
        self.tempos[name] = pace

    def go(self, hours):
        """The chain goes on for some hours; the rows of what came."""
        check_hours(hours)
        # Whether it is too long shows on the way only, when much has changed already.
        trial = self.twin()
        rows = trial.walk_for(hours)
        self.stand_as(trial)
        return rows

    def outs(self, count):
        """The chain goes on till so many pails were emptied; the rows of what came."""
        if not is_within(count, 1, MOST_OUTS):
            raise BadCount()
        if not self.row:
            raise Nobody()
        rows = []
        end = len(self.poured) + count
        while self.row and len(self.poured) < end:
            self.walk(self.till_meeting())
            rows.extend(self.turns())
        return rows

    def hour(self):
        return self.now

    def hands(self):
        """The names from the well to the fire."""
        return list(self.row)

    def called(self):
        """The names of those called away, from the well to the fire."""
        return [name for name in self.row if name in self.leaving]

    def pace(self, name):
        self.number_of(name)
        return self.tempos[name]

    def place(self, name):
        return self.spots[self.number_of(name)]

    def pail(self, name):
        return self.loads[self.number_of(name)]

    def emptied(self):
        """The numbers of the emptied pails, in their order."""
        return list(self.poured)

    def pails(self):
        """How many pails were taken from the well."""
        return len(self.marks)

    def next_out(self):
        """The hours till the next pail is emptied if nothing is done, or None."""
        if not self.row:
            return None
        # Nobody is ahead of the last one, so it walks at its own pace up to the fire.
        return hours_at(minus((self.fire, 1), self.spots[-1]), self.paces()[-1])

    def ledger(self, name):
        """The hours in the chain, the labour walked and the labour lost."""
        if name not in self.ledgers:
            raise NoHand()
        return self.ledgers[name]

    def story(self, pail):
        """Rows (name, from, to): who bore the pail from where to where."""
        if not is_within(pail, 0, len(self.marks) - 1):
            raise NoPail()
        marks = list(self.marks[pail])
        if pail in self.loads:
            at = self.loads.index(pail)
            marks.append((self.row[at], self.spots[at]))
        return story_rows(marks)

    def twin(self):
        """Another chain that stands alike, of which each goes its own way."""
        other = Chain(self.stretches)
        other.stand_as(self)
        return other

    def stand_as(self, other):
        """Lets this chain stand as another one of the same way, with lists of its own."""
        self.now = other.now
        self.row = list(other.row)
        self.loads = list(other.loads)
        self.spots = list(other.spots)
        self.tempos = dict(other.tempos)
        self.leaving = list(other.leaving)
        self.ledgers = dict(other.ledgers)
        self.marks = list(other.marks)
        self.poured = list(other.poured)

    def number_of(self, name):
        """The number of the hand in the row, from the well on."""
        if name not in self.row:
            raise NoHand()
        return self.row.index(name)

    def paces(self):
        return [self.tempos[name] for name in self.row]

    def take_pail(self):
        """A new pail, at the well, ahead of all others in the row; its number."""
        number = len(self.marks)
        self.marks.append(())
        self.loads.insert(0, number)
        self.spots.insert(0, NOUGHT)
        return number

    def mark(self, at):
        """Notes who bears the pail of this number in the row, and up to where."""
        pail = self.loads[at]
        self.marks[pail] = self.marks[pail] + ((self.row[at], self.spots[at]),)

    def mark_from(self, first):
        for at in range(first, len(self.row)):
            self.mark(at)

    def till_meeting(self):
        return meeting(self.fire, self.paces(), self.spots)

    def walk(self, hours):
        """All walk on for so many hours, not more than till the meeting."""
        paces = self.paces()
        going = speeds(paces, self.spots)
        for name, pace, speed in zip(self.row, paces, going):
            self.ledgers[name] = ledger_on(self.ledgers[name], pace, speed, hours)
        self.spots = walked(paces, self.spots, hours)
        self.now = plus(self.now, hours)

    def walk_for(self, hours):
        """All walk on for so many hours, meeting by meeting; the rows of what came."""
        rows = []
        end = len(self.poured) + MOST_OUTS
        left = hours
        while self.row and below(NOUGHT, left):
            some = lesser(left, self.till_meeting())
            self.walk(some)
            left = minus(left, some)
            rows.extend(self.turns())
            if len(self.poured) > end:
                raise TooLong()
        self.now = plus(self.now, left)
        return rows

    def turns(self):
        """All turns that are due now; their rows."""
        rows = []
        while self.row and self.spots[-1] == (self.fire, 1):
            rows.extend(self.turn())
        return rows

    def turn(self):
        """The last pail is emptied, and each hand behind takes over; the turn's rows."""
        rows = [(self.now, "out", self.loads[-1], self.row[-1])]
        self.poured.append(self.loads[-1])
        leaver = self.next_leaver()
        if leaver is None:
            self.mark_from(0)
            self.take_pail()
        else:
            self.mark_from(leaver)
            rows.append((self.now, "left", self.row[leaver]))
            self.leave(leaver)
        # Now each hand from there on stands beside the pail of the one before; the emptied one is left over.
        self.loads.pop()
        self.spots.pop()
        return rows

    def next_leaver(self):
        """The number in the row of who leaves at a turn, None where nobody is called away."""
        for at in reversed(range(len(self.row))):
            if self.row[at] in self.leaving:
                return at
        return None

    def leave(self, at):
        name = self.row.pop(at)
        self.leaving.remove(name)
        self.tempos.pop(name)
