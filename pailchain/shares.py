"""Shares: the hours from each hand to the next one, where hands stand slow to quick."""

from pailchain.amounts import NOUGHT, amount, below, lesser, minus, over, plus, times
from pailchain.checks import MOST_HANDS, check_paces, is_within
from pailchain.errors import BadCount, BadPlace, NotRising
from pailchain.way import labour

ONE = (1, 1)
MOST_ROUNDS = 24


def check_rising(paces):
    """Refuses paces with BadCount, BadPace, then NotRising."""
    check_paces(paces, MOST_HANDS)
    for slow, quick in zip(paces, paces[1:]):
        if slow > quick:
            raise NotRising()


def check_rounds(rounds):
    if not is_within(rounds, 0, MOST_ROUNDS):
        raise BadCount()


def check_places(places, fire):
    """Refuses with BadPlace places that do not lead from the well on, each below the fire."""
    if places[0] != NOUGHT or not below(places[-1], fire):
        raise BadPlace()
    for here, there in zip(places, places[1:]):
        if below(there, here):
            raise BadPlace()


def shares(way, paces, places):
    """The hours that each needs, at its pace, to the place of the next one, the last one to the fire."""
    fire = (labour(way), 1)
    if len(places) != len(paces):
        raise BadCount()
    check_rising(paces)
    check_places(places, fire)
    ends = places[1:] + [fire]
    return [over(minus(end, place), (pace, 1)) for pace, place, end in zip(paces, places, ends)]


def mixed(part, before, last):
    """So great a part of the one amount, and the rest of the other one."""
    return plus(times(part, before), times(minus(ONE, part), last))


def behind_one(paces, found):
    """The shares behind one round."""
    told = [found[-1]]
    for at in range(1, len(paces)):
        told.append(mixed(amount(paces[at - 1], paces[at]), found[at - 1], found[-1]))
    return told


def column(paces, number, rounds):
    """How much of the share of this number is in each share behind the rounds."""
    found = [ONE if at == number else NOUGHT for at in range(len(paces))]
    for turn in range(rounds):
        found = behind_one(paces, found)
    return found


def table(paces, rounds):
    """A row for each share behind the rounds: how much of each share of before is in it."""
    check_rising(paces)
    check_rounds(rounds)
    columns = [column(paces, number, rounds) for number in range(len(paces))]
    return [[parts[at] for parts in columns] for at in range(len(paces))]


def behind(paces, found, rounds):
    """The shares behind so many rounds, found those ahead."""
    check_rising(paces)
    if len(found) != len(paces):
        raise BadCount()
    check_rounds(rounds)
    told = list(found)
    for turn in range(rounds):
        told = behind_one(paces, told)
    return told


def spread(found):
    """The greatest share less the least one."""
    least = greatest = found[0]
    for share in found:
        least = lesser(least, share)
        if below(greatest, share):
            greatest = share
    return minus(greatest, least)


def common_part(one, other):
    """The sum of what both rows have, at each place the lesser of the two."""
    total = NOUGHT
    for part, counterpart in zip(one, other):
        total = plus(total, lesser(part, counterpart))
    return total


def narrowing(paces, rounds):
    """The part of the spread that is left at most behind the rounds, told of the table alone."""
    rows = table(paces, rounds)
    least = ONE
    for one in rows:
        for other in rows:
            least = lesser(least, common_part(one, other))
    return minus(ONE, least)


def resting(way, paces):
    """The shares that are behind a round as they were: all the same."""
    whole = labour(way)
    check_rising(paces)
    return [amount(whole, sum(paces))] * len(paces)
