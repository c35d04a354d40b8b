"""What several files refuse alike: numbers, paces and hours."""

from pailchain.amounts import NOUGHT, below
from pailchain.errors import BadCount, BadPace, BadTime

MOST_PACE = 12
MOST_HANDS = 8
MOST_HOURS = 60
MOST_PARTS = 60


def is_number(thing):
    # Python counts True and False as integers; the document does not.
    return isinstance(thing, int) and not isinstance(thing, bool)


def is_within(thing, least, most):
    """Whether it is a number from least to most."""
    return is_number(thing) and least <= thing <= most


def check_pace(pace):
    if not is_within(pace, 1, MOST_PACE):
        raise BadPace()


def check_paces(paces, most):
    """Refuses paces with BadCount where they are not 1 to most of them, then with BadPace."""
    if not 1 <= len(paces) <= most:
        raise BadCount()
    for pace in paces:
        check_pace(pace)


def check_hours(hours):
    """Refuses with BadTime hours that nothing goes on for."""
    if below(hours, NOUGHT) or below((MOST_HOURS, 1), hours) or hours[1] > MOST_PARTS:
        raise BadTime()
