"""What several files refuse alike: numbers, names, paces and hours."""

from pailchain.amounts import NOUGHT, below
from pailchain.errors import BadCount, BadName, BadPace, BadTime

MOST_LETTERS = 8
MOST_PACE = 12
MOST_HANDS = 8
MOST_HOURS = 60
MOST_PARTS = 60


def is_number(thing):
    # Python counts True and False as integers; the document does not.
    return isinstance(thing, int) and not isinstance(thing, bool)


def is_within(thing, least, most):
    """Whether it is a number from least to most."""
    return is_number(thing) and least <= thing <= most


def is_name(text):
    """Whether it is 1 to 8 letters from a to z."""
    return 1 <= len(text) <= MOST_LETTERS and all("a" <= sign <= "z" for sign in text)


def check_name(name):
    if not is_name(name):
        raise BadName()


def check_pace(pace):
    if not is_within(pace, 1, MOST_PACE):
        raise BadPace()


def check_paces(paces, most):
    """Refuses paces with BadCount where they are not 1 to most of them, then with BadPace."""
    if not 1 <= len(paces) <= most:
        raise BadCount()
    for pace in paces:
        check_pace(pace)


def check_hours(hours):
    """Refuses with BadTime hours that nothing goes on for."""
    if below(hours, NOUGHT) or below((MOST_HOURS, 1), hours) or hours[1] > MOST_PARTS:
        raise BadTime()
