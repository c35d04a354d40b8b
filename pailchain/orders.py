"""Orders: how many pails some hands empty, by the order in which they stand."""

from pailchain.amounts import below, times
from pailchain.chain import Chain
from pailchain.checks import check_hours, check_paces, is_within
from pailchain.errors import BadLabour, TooLong

MOST_LABOUR = 54
MOST_ORDERED = 4
MOST_EMPTIED = 60
LONGEST_STRETCH = 9
NAMES = "abcd"


def check_ordered(labour, paces):
    """Refuses with BadLabour, BadCount, BadPace."""
    if not is_within(labour, 1, MOST_LABOUR):
        raise BadLabour()
    check_paces(paces, MOST_ORDERED)


def check_order(labour, paces, hours):
    """Refuses with BadLabour, BadCount, BadPace, BadTime, TooLong."""
    check_ordered(labour, paces)
    check_hours(hours)
    if below((MOST_EMPTIED * labour, 1), times(hours, (sum(paces), 1))):
        raise TooLong()


def way_of(labour):
    """A way that takes so much labour."""
    way = []
    for begin in range(0, labour, LONGEST_STRETCH):
        way.append((min(LONGEST_STRETCH, labour - begin), 1))
    return way


def begun(labour, paces):
    """A chain of hands of these paces, all at the well with a pail."""
    chain = Chain(way_of(labour))
    # Each one joins ahead of all others, so the one at the fire joins first.
    for at in reversed(range(len(paces))):
        chain.enter(NAMES[at], paces[at])
    return chain


def count_emptied(labour, paces, hours):
    """How many pails are emptied; nothing is refused."""
    chain = begun(labour, paces)
    chain.go(hours)
    return len(chain.emptied())


def orders_of(numbers):
    """All orders of the numbers, the first one first as a list of numbers."""
    if not numbers:
        return [[]]
    found = []
    for number in numbers:
        others = [other for other in numbers if other != number]
        found.extend([[number] + order for order in orders_of(others)])
    return found


def emptied_by(labour, paces, hours):
    """How many pails the hands empty in the order of paces."""
    check_order(labour, paces, hours)
    return count_emptied(labour, paces, hours)


def best(labour, paces, hours):
    """How many pails the best order empties, and the first order that does."""
    check_order(labour, paces, hours)
    most, found = -1, []
    for order in orders_of(list(range(len(paces)))):
        count = count_emptied(labour, [paces[number] for number in order], hours)
        if count > most:
            most, found = count, order
    return (most, found)


def bound(labour, paces, hours):
    """How many pails no order goes beyond."""
    check_order(labour, paces, hours)
    num, den = times(hours, (sum(paces), 1))
    return num // (den * labour)
