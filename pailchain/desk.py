"""The desk: a yard that is told and asked by rows of words."""

from pailchain.amounts import shown
from pailchain.errors import PailError
from pailchain.words import deed_text, read_deed, read_things
from pailchain.yard import Yard

NONE = "none"
# The things of each question in their order.
QUESTIONS = {
    "hour": (),
    "pool": (),
    "hands": ("number",),
    "where": ("name",),
    "ledger": ("name", "number"),
    "next": ("number",),
}


def names_text(names):
    return " ".join(names) if names else NONE


def row_text(row):
    """A yard's row by its parts, the hour as an amount."""
    return " ".join([shown(row[0])] + [str(part) for part in row[1:]])


def rows_text(rows):
    return "\n".join([row_text(row) for row in rows]) if rows else NONE


def done_text(word, answer):
    """How a deed of this word is answered, by what the yard answered."""
    if word == "lay":
        return f"chain {answer}"
    if word == "send":
        return f"pail {answer}"
    if word in ("go", "outs"):
        return rows_text(answer)
    return "done"


def tell_hour(yard):
    return shown(yard.hour())


def tell_pool(yard):
    return names_text(yard.pool())


def tell_hands(yard, number):
    return names_text(yard.chain(number).hands())


def tell_where(yard, name):
    number = yard.where(name)
    if number is None:
        return "pool"
    chain = yard.chain(number)
    return f"chain {number} at {shown(chain.place(name))} with {chain.pail(name)}"


def tell_ledger(yard, name, number):
    return " ".join([shown(part) for part in yard.chain(number).ledger(name)])


def tell_next(yard, number):
    hours = yard.chain(number).next_out()
    return NONE if hours is None else shown(hours)


TELLERS = {
    "hour": tell_hour,
    "pool": tell_pool,
    "hands": tell_hands,
    "where": tell_where,
    "ledger": tell_ledger,
    "next": tell_next,
}


class Desk:
    def __init__(self):
        self.yard = Yard()

    def say(self, row):
        """The answer to a row of words; a refusal is an answer, too."""
        try:
            return self.answer(row)
        except PailError as refusal:
            return f"no: {refusal.word}"

    def answer(self, row):
        if row == "undo":
            return deed_text(self.yard.undo())
        if row == "redo":
            return deed_text(self.yard.redo())
        parts = row.split(" ")
        if parts[0] in QUESTIONS:
            return self.tell(parts[0], parts[1:])
        deed = read_deed(row)
        return done_text(deed[0], self.yard.do(deed))

    def tell(self, word, texts):
        """The answer to a question."""
        things = read_things(QUESTIONS[word], texts)
        teller = TELLERS[word]
        return teller(self.yard, *things)
