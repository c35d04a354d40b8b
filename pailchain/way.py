"""The way from the well to the fire: its stretches, places and steps."""

from pailchain.amounts import NOUGHT, below, lesser, minus, over, plus, times
from pailchain.checks import is_within
from pailchain.errors import BadPlace, BadWay

MOST_STRETCHES = 6
MOST_STEPS_OR_TOIL = 9


def is_stretch(thing):
    if not isinstance(thing, tuple) or len(thing) != 2:
        return False
    return all(is_within(part, 1, MOST_STEPS_OR_TOIL) for part in thing)


def check_way(way):
    """Refuses what is no way with BadWay."""
    if not 1 <= len(way) <= MOST_STRETCHES:
        raise BadWay()
    for stretch in way:
        if not is_stretch(stretch):
            raise BadWay()


def check_within(where, end):
    """Refuses with BadPlace an amount that is not from nought to the number end."""
    if below(where, NOUGHT) or below((end, 1), where):
        raise BadPlace()


def labour(way):
    """What all steps of the way take."""
    check_way(way)
    return sum(count * toil for count, toil in way)


def steps(way):
    """How many steps the way has."""
    check_way(way)
    return sum(count for count, toil in way)


def place_at(way, step):
    """The place of a step."""
    check_within(step, steps(way))
    place = NOUGHT
    left = step
    for count, toil in way:
        here = lesser(left, (count, 1))
        place = plus(place, times(here, (toil, 1)))
        left = minus(left, here)
    return place


def step_at(way, place):
    """The step of a place."""
    check_within(place, labour(way))
    step = NOUGHT
    left = place
    for count, toil in way:
        here = lesser(left, (count * toil, 1))
        step = plus(step, over(here, (toil, 1)))
        left = minus(left, here)
    return step


def stretch_at(way, place):
    """The number of the stretch on which a place lies."""
    check_within(place, labour(way))
    end = 0
    for number, (count, toil) in enumerate(way):
        end += count * toil
        if below(place, (end, 1)):
            return number
    # Only the fire lies below no stretch's end.
    return len(way) - 1
