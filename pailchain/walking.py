"""Walking: how hands go on between two meetings."""

from pailchain.amounts import lesser, minus, over, plus, times


def speeds(paces, places):
    """The paces at which they walk, from the well to the fire."""
    found = []
    # From the fire on, since who walks behind depends on how the next one walks.
    for at in reversed(range(len(paces))):
        speed = paces[at]
        if found and places[at] == places[at + 1]:
            speed = min(speed, found[-1])
        found.append(speed)
    found.reverse()
    return found


def meeting(labour, paces, places):
    """The hours till the meeting, None without hands."""
    if not paces:
        return None
    hours = hours_at(minus((labour, 1), places[-1]), paces[-1])
    going = speeds(paces, places)
    for at in range(len(paces) - 1):
        nearing = going[at] - going[at + 1]
        # Whoever is at the place of the next one already never walks quicker than it, so it needs no test.
        if nearing > 0:
            hours = lesser(hours, hours_at(minus(places[at + 1], places[at]), nearing))
    return hours


def hours_at(gap, speed):
    """The hours that so much labour takes at a speed, a number."""
    return over(gap, (speed, 1))


def walked(paces, places, hours):
    """The places behind so many hours, not more than till the meeting."""
    going = speeds(paces, places)
    return [plus(place, times((speed, 1), hours)) for place, speed in zip(places, going)]
